/-
  The walks of slices.IndexFunc and ContainsFunc over blocks, and of what tells whether all blocks are right.
-/
import Derived.Test.YtnahebfhhcebpaaGreatKTSw
import Derived.Test.YtnahebfhhcebpaaGreatKTApp
import Derived.Maps.AppendAt
import Derived.Test.YtnahebfhhcebpaaGreatKURight
import Derived.Test.YtnahebfhhcebpaaGreatKGIdx
section
open Go Go.RowKit
namespace Go.Proofs.YtnahebfhhcebpaaGreat
open TT SS RR FF JJ CC MM WW BB
theorem under_tb (w : World) : (underlying 34).run Tryz.prog w = .ok (.slice 47) w := by kernel_rfl
theorem size_tb (w : World) : (Go.sizeOf 47).run Tryz.prog w = .ok 6 w := by kernel_rfl
set_option maxRecDepth 100000 in
set_option maxHeartbeats 32000000 in
theorem lawC10 (C : Code10) (l : List Op10) (v : Value) (w : World) (hv : OpsT w v l) (hm : MemsT l) :
    Calls Tryz.prog 6 #[v] w fun e w' => e = .returned (.bool true) ∧ Below w.heap.size w w' := by
  have HV := Lib.hid hv
  have HM := Lib.hid hm
  obtain ⟨a0, cap, rfl, _⟩ := hv
  clear hm
  go_enter Tryz.func6, Tryz.ntmps6
  go_wp2_with fail
  refine (awake10_any C w).mono ?_
  rintro e w1 ⟨rfl, hb1⟩
  have X1 := Lib.hid hb1
  clear hb1
  go_wp2_with fail
  refine (few10_any l _ 30 w1 (by obtain ⟨a, c, e, h⟩ := HV.out; exact ⟨a, c, e, h.imp id fun ⟨b, off, h1, h2, h3⟩ => ⟨b, off, h1, Nat.lt_of_lt_of_le h2 X1.out.size, fun i hi => (h3 i hi).later X1.out h2⟩⟩) HM.out).mono ?_
  rintro e w2 ⟨X, rfl, hX, hb2⟩
  have X2 := Lib.hid (X1.out.trans (hb2.mono X1.out.size))
  have HX := Lib.hid hX
  clear hb2 hX
  cases X
  · go_wp2_with fail
    refine (awake10_any C w2).mono ?_
    rintro e w3 ⟨rfl, hb3⟩
    have X3 := Lib.hid (X2.out.trans (hb3.mono X2.out.size))
    clear hb3
    go_wp2_with fail
    go_ret
    exact ⟨rfl, X3.out⟩
  · have HF := Lib.hid (HX.out rfl)
    have HL30 := Lib.hid (show l.length ≤ 30 by have := HF.out.1; omega)
    go_wp2_with fail
    refine (new9 w2).mono ?_
    rintro e w3 ⟨g, O, rfl, hA, hO, hb3⟩
    have HA := Lib.hid (show At9 O w3 g lgE from hA)
    have HO := Lib.hid hO
    have W3 := Lib.hid (show Below w2.heap.size w2 w3 from hb3)
    clear hA hO hb3
    go_wp2_with fail
    refine (C.open_ O w3 g lgE HA.out ok_lgE (by show 0 + 0 ≤ 1000000; omega) (by rw [recs_whole inv_lgE rfl]; exact Nat.zero_le _) rfl).mono ?_
    rintro e w4 ⟨m, O', O1, rfl, hA, hM, hk, hO', hO1⟩
    rw [cut_whole inv_lgE] at hA
    rw [recs_whole inv_lgE rfl] at hM
    have HP := Lib.hid (show Sw C w ((w4.alloc (.cells #[.int .i64 0, .int .i64 0] 33)).alloc (.cells #[.int .i64 0, .int .i64 0] 33)) m g w4.heap.size (w4.heap.size + 1) True ((0, 0), []) lgE (0, 0) (0, 0) (.slice none 0 0) [] from by
      have X4 : Below w.heap.size w w4 := X2.out.trans ((W3.out.trans (SS.Keeps.low9 hk (fun b hl ho => absurd (HO.out b ho) (by omega)) W3.out.size)).mono X2.out.size)
      have A4 : Below w4.heap.size w4 ((w4.alloc (.cells #[.int .i64 0, .int .i64 0] 33)).alloc (.cells #[.int .i64 0, .int .i64 0] 33)) := ((Below.refl _ _).alloc (Nat.le_refl _) _).alloc (by simp) _
      exact ⟨O', O1, at9_keep hA (Keeps.of A4), fun _ => C.keep hM (Keeps.of A4), fun b h => Nat.lt_of_lt_of_le (C.lt hM b h) A4.size, fun b h => ⟨Nat.le_trans X2.out.size ((hO' b h).elim (HO.out b) fun h => Nat.le_trans W3.out.size h), by have := at9_lt hA b h; omega, by have := at9_lt hA b h; omega⟩,
        fun b h => ⟨Nat.le_trans X2.out.size (Nat.le_trans W3.out.size (hO1 b h).1), (hO1 b h).2, by have := C.lt hM b h; omega, by have := C.lt hM b h; omega⟩, X4.trans (A4.mono X4.size), ⟨X4.size, Nat.le_succ_of_le X4.size, by omega⟩, ⟨(Blk.new' rfl (row2_ _ _)).alloc _, Blk.new' (by simp) (row2_ _ _)⟩, fun w' _ => ⟨none, 0, rfl, Or.inl rfl⟩⟩)
    obtain ⟨z, hz⟩ : ∃ z, w4.heap.size + 1 = z := ⟨_, rfl⟩
    obtain ⟨y, hy⟩ : ∃ y, w4.heap.size = y := ⟨_, rfl⟩
    have HZ := Lib.hid hz
    have HY := Lib.hid hy
    obtain ⟨wb, hwb⟩ : ∃ wb, (w4.alloc (.cells #[.int .i64 0, .int .i64 0] 33)).alloc (.cells #[.int .i64 0, .int .i64 0] 33) = wb := ⟨_, rfl⟩
    have HWB := Lib.hid hwb
    rw [hwb, hz, hy] at HP
    clear hA hM hk hO' hO1 hy hz hwb
    go_wp2_with fail
    rw [HWB.out, HZ.out, HY.out]
    go_loopw [4, 8, 9, 10] (fun sm u k x wr => ∃ (i : Nat) (s : Lg) (all : List ByteArray) (st : MemT) (B : List Bv) (m : Nat), i ≤ l.length ∧ x = .int .i64 (i : Int) ∧ sm = .pointer (some ⟨m, 0, none⟩) ∧ k = .int .i64 (B.length : Int) ∧ Sw C w wr m g y z True st s st.1 st.1 u B ∧ B.map Prod.fst = st.2 ∧ LogI s all st i) (fun _ _ _ x _ => l.length - (intOf x).toNat)
    case atStart => exact ⟨0, lgE, [], ((0, 0), []), [], m, Nat.zero_le _, rfl, rfl, rfl, HP.out, rfl, logI_start⟩
    case round =>
      clear HP HWB HZ HY
      obtain ⟨i, s, all, st, B, m, hi, rfl, rfl, rfl, hp, hmap, hlog⟩ := hrel
      have HSW := Lib.hid hp
      have HMB := Lib.hid hmap
      have HLG := Lib.hid hlog
      have HBL := Lib.hid hp.below
      obtain ⟨⟨s1, s2⟩, bl⟩ := st
      obtain ⟨ua, uc, rfl⟩ := bv_shape hp.bv
      have i0 : (0 : Int) ≤ (i : Int) := by omega
      have ib : (i : Int) ≤ 30 := by have := HL30.out; omega
      clear hp hlog hmap
      by_cases hlt : i < l.length
      · have hlt' : (i : Int) < (l.length : Int) := by omega
        have HLT := Lib.hid hlt
        obtain ⟨tb, toff, rfl, _, _, hat⟩ := opsT_at HV.out i hlt
        obtain ⟨f5, fs, fm⟩ := few_op HF.out (by omega) HM.out hlt
        obtain ⟨⟨⟨x1, x2⟩, lv, L, fz, n, cr, kp⟩, hP⟩ : ∃ P, l.getD i op10 = P := ⟨_, rfl⟩
        rw [hP] at f5 fs fm
        have HAT := Lib.hid (show ∀ wx, Below w.heap.size w wx → OpT wx tb (toff + i * 7) ⟨(x1, x2), lv, L, fz, n, cr, kp⟩ from fun wx hb => hP ▸ hat wx hb i hlt)
        have F5 := Lib.hid (show L.length ≤ 5 from f5)
        have FS := Lib.hid (show ∀ y ∈ L, SmallT y.1 ∧ MemI y.1 from fs)
        have FN := Lib.hid (show -9223372036854775808 ≤ n ∧ n ≤ 9223372036854775807 from fm.2.2.1)
        obtain ⟨pa, pc, hps⟩ := bv_shape (show BvAt w lv L from (HAT.out w (Below.refl _ _)).2.2.2.2.2.2.2)
        subst hps
        have HBV := Lib.hid (show ∀ wx, Below w.heap.size w wx → BvAt wx (.slice pa L.length pc) L from fun wx hb => (HAT.out wx hb).2.2.2.2.2.2.2)
        have HCE := Lib.hid (show ∀ wx, Below w.heap.size w wx → wx.cell? ⟨tb, toff + i * 7, none⟩ = some (.int .i64 x1) ∧ wx.cell? ⟨tb, toff + i * 7 + 1, none⟩ = some (.int .i64 x2) ∧ wx.cell? ⟨tb, toff + i * 7 + 2, none⟩ = some (.slice pa L.length pc) ∧ wx.cell? ⟨tb, toff + i * 7 + 3, none⟩ = some (.bool fz) ∧ wx.cell? ⟨tb, toff + i * 7 + 4, none⟩ = some (.int .i64 n) ∧ wx.cell? ⟨tb, toff + i * 7 + 5, none⟩ = some (.bool cr) ∧ wx.cell? ⟨tb, toff + i * 7 + 6, none⟩ = some (.int .i64 kp) from fun wx hb => by
          obtain ⟨h0, h1, h2, h3, h4, h5, h6, _⟩ := HAT.out wx hb
          exact ⟨h0, h1, h2, h3, h4, h5, h6⟩)
        clear hi hlt hat hP f5 fs fm
        obtain ⟨c0, c1, c2, c3, c4, c5, c6⟩ := HCE.out wr HBL.out
        go_wp2_with fail
        clear c0 c1 c2 c3 c4 c5 c6
        refine (right10_any ⟨(x1, x2), .slice pa L.length pc, L, fz, n, cr, kp⟩ wr (HBV.out wr HBL.out) (fun y hy => (FS.out y hy).2) (by have := F5.out; show L.length ≤ 1000; omega)).mono ?_
        rintro e w5 ⟨rfl, hb5⟩
        have P5 := Lib.hid (HSW.out.low hb5)
        clear hb5
        by_cases hr : rightO ⟨(x1, x2), .slice pa L.length pc, L, fz, n, cr, kp⟩
        · have HR := Lib.hid (show rightS (x1, x2) ∧ ∀ y ∈ L, blockOk y.1 from hr)
          rw [decide_eq_true hr]
          clear hr
          obtain ⟨_, _, _, c3, c4, _, _⟩ := HCE.out w5 P5.out.below
          go_upto_if 46 with fail
          go_cut [10] from 47 to 53 (fun x wx => x = .int .i64 (i : Int) ∧ ∃ sx, Sw C w wx m g y z True ((s1, s2), bl) sx (s1, s2) (s1, s2) (.slice ua B.length uc) B ∧ LogI sx all ((s1, s2), bl) i)
          case first =>
            cases fz
            · go_wp2_with fail
              go_meet
              exact ⟨rfl, s, P5.out, HLG.out⟩
            · go_wp2_with fail
              refine (fuse_sw P5.out FN.out).mono ?_
              rintro e w6 ⟨rfl, h6⟩
              go_wp2_with fail
              go_meet
              exact ⟨rfl, _, h6, HLG.out.fuse FN.out.2⟩
          case rest =>
            obtain ⟨rfl, sx, h5, h6⟩ := hcut
            have PC := Lib.hid h5
            have HLX := Lib.hid h6
            have XC := Lib.hid h5.below
            clear h5 h6
            go_upto_region 14 with fail
            refine plan_abs (fun wx => Below w.heap.size w wx) [(true, 0), (true, 1), (true, 2), (true, 3), (true, 4), (true, 5), (true, 6), (true, 7), (true, 8), (true, 9), (true, 10), (false, 11), (true, 12)] (by kernel_rfl) (by kernel_rfl) (fun _ _ d _ _ h => by cases d <;> exact h) fun w5 hs5 => ⟨XC.out.trans ((hs5.below _).mono XC.out.size), ?_⟩
            have P5 := Lib.hid (PC.out.low (hs5.below _))
            clear hs5
            iterate 11 (refine pl_run _ ?_ rfl rfl ?_ ?_; rotate_left; (focus (intro w' hS; obtain ⟨c0, c1, c2, _, _, _, _⟩ := HCE.out w' hS; go_simp; exact rfl)); simp only [Act.put, List.setIfInBounds_toArray, List.set_cons_zero, List.set_cons_succ, List.getElem_toArray, List.getElem_cons_zero, List.getElem_cons_succ])
            refine pl_call (R := fun u' w' => Below w.heap.size w w' ∧ ∃ (E : Int) (sy : Lg), u' = .int .i64 E ∧ Sw C w w' m g y z (E = 0) (upS (s1, s2) (x1, x2), bl ++ L.map Prod.fst) sy (s1, s2) (s1, s2) (.slice ua B.length uc) B ∧ sizeL sy ≤ 28028 * (i + 1) ∧
              ((E = 0 ∧ ∃ all1, LogI sy all1 (upS (s1, s2) (x1, x2), bl ++ L.map Prod.fst) (i + 1)) ∨ (E = 8 ∧ ∃ k, InvS sy (all ++ (recsOf (s1, s2) (x1, x2) (L.map Prod.fst)).take k) all.length))) _ rfl rfl (by go_simp) ((save_sw P5.out HLX.out (by omega) (x1, x2) _ L HBV.out FS.out F5.out HR.out.1 HR.out.2).mono fun e w' h => ?_) (fun u w' h => h.1) fun u w6 h6 => ?_
            · obtain ⟨E, sy, rfl, k1, k2⟩ := h
              exact ⟨_, rfl, k1.below, E, sy, rfl, k1, k2⟩
            obtain ⟨_, E, sy, rfl, k1, k2, k3⟩ := h6
            have P6 := Lib.hid k1
            have HSY := Lib.hid k2
            have HE := Lib.hid k3
            clear k1 k2 k3
            simp only [Act.put, List.setIfInBounds_toArray, List.set_cons_zero, List.set_cons_succ, List.getElem_toArray, List.getElem_cons_zero, List.getElem_cons_succ]
            iterate 1 (refine pl_run _ ?_ rfl rfl ?_ ?_; rotate_left; (focus (intro w' hS; go_simp; exact rfl)); simp only [Act.put, List.setIfInBounds_toArray, List.set_cons_zero, List.set_cons_succ, List.getElem_toArray, List.getElem_cons_zero, List.getElem_cons_succ])
            refine pl_end ?_
            go_upto_region 15 with fail
            refine tail_abs 19 (by kernel_rfl) (by kernel_rfl) fun w8 hs8 => ?_
            have P8 := Lib.hid (P6.out.low (hs8.below _))
            clear hs8
            obtain ⟨c0, c1, _, _, _, _, _⟩ := HCE.out w8 P8.out.below
            obtain ⟨d0, d1⟩ := cells2 P8.out.z_
            have f0 := P8.out.z_.frz 0
            have f1 := P8.out.z_.frz 1
            simp only [List.take_succ_cons, List.take_zero, List.drop_succ_cons, List.drop_zero]
            repeat still_step
            refine wpStill_nil ?_
            clear c0 c1
            go_wp2_with fail
            obtain ⟨xi, ui⟩ := rset2 P8.out.z_ (.int .i64 (max s1 x1)) (.int .i64 (max s2 x2))
            refine abs_wp (fun wx => Sw C w wx m g y z (E = 0) (upS (s1, s2) (x1, x2), bl ++ L.map Prod.fst) sy (s1, s2) (max s1 x1, max s2 x2) (.slice ua B.length uc) B) (Sw.storeZ P8.out xi ui) ?_
            clear xi ui d0 d1 f0 f1
            intro w9 hp9
            have P9 := Lib.hid hp9
            clear hp9
            have HBN := Lib.hid (show B.length = bl.length from by have h1 := congrArg List.length HMB.out; rwa [List.length_map] at h1)
            have HLB := Lib.hid (show B.length + L.length ≤ 10000 from by have h1 := HBN.out; have h2 := HLG.out.len; simp only at h2; have := F5.out; omega)
            refine plan_abs (fun wx => Below w9.heap.size w9 wx) [(true, 1), (true, 3), (true, 4), (true, 5), (true, 6), (true, 7), (false, 0), (false, 2), (false, 8), (true, 9)] (by kernel_rfl) (by kernel_rfl) (fun _ _ d _ _ h => by cases d <;> exact h) fun w10 hs10 => ⟨hs10.below _, ?_⟩
            have Y10 := Lib.hid (show Below w9.heap.size w9 w10 from hs10.below _)
            have P10 := Lib.hid (P9.out.low Y10.out)
            clear hs10
            iterate 6 (refine pl_run _ ?_ rfl rfl ?_ ?_; rotate_left; (focus (intro w' hS; obtain ⟨_, _, c2, _, _, _, _⟩ := HCE.out w' (P9.out.below.trans (hS.mono P9.out.below.size)); go_simp; exact rfl)); simp only [Act.put, List.setIfInBounds_toArray, List.set_cons_zero, List.set_cons_succ, List.getElem_toArray, List.getElem_cons_zero, List.getElem_cons_succ])
            obtain ⟨ti, i1, i2, i3, i4⟩ := info_parts tinfo_blk
            obtain ⟨a3, c3, w11, a4, c4, w12, hr2, hr3, hb11, hb12, ho⟩ := two_rows (P := Tryz.prog) (w := w10) (t := 34) (ty := 34) (e := 47) (i := ti) (bytes := 88) tund_blks i1 i2 i3 i4 rfl P10.out.bv (HBV.out w10 P10.out.below) HLB.out (by decide)
            refine pl_value (w' := w10.alloc (.cells #[] 47)) _ (.slice (some ⟨w10.heap.size, 0, none⟩) 0 0) rfl rfl (by go_simp) (Y10.out.trans (((Below.refl _ _).alloc (Nat.le_refl _) _).mono Y10.out.size)) ?_
            simp only [Act.put, List.setIfInBounds_toArray, List.set_cons_zero, List.set_cons_succ, List.getElem_toArray, List.getElem_cons_zero]
            refine pl_value (w' := w11) _ (.slice a3 B.length c3) rfl rfl (JJ.run_op_append _ _ _ rfl _ _ rfl rfl hr2) (Y10.out.trans (hb11.mono Y10.out.size)) ?_
            simp only [Act.put, List.setIfInBounds_toArray, List.set_cons_zero, List.set_cons_succ, List.getElem_toArray, List.getElem_cons_zero, List.getElem_cons_succ]
            refine pl_value (w' := w12) _ (.slice a4 (B.length + L.length) c4) rfl rfl (JJ.run_op_append _ _ _ rfl _ _ rfl rfl hr3) (Y10.out.trans (hb12.mono Y10.out.size)) ?_
            simp only [Act.put, List.setIfInBounds_toArray, List.set_cons_zero, List.set_cons_succ, List.getElem_toArray, List.getElem_cons_zero, List.getElem_cons_succ]
            have P12 := Lib.hid (Sw.row P10.out hb12 ho HBV.out)
            have HCAP := Lib.hid (show B.length + L.length ≤ c4 from by
              rcases ho.2 with ⟨h1, h2⟩ | ⟨q, cap, cur, h1, _, _, h2, _⟩
              · injection h1 with _ e2 e3; omega
              · injection h1 with _ e2 e3; rw [List.length_append] at h2; omega)
            clear hr2 hr3 hb11 hb12 ho i1 i2 i3 i4
            iterate 1 (refine pl_run _ ?_ rfl rfl ?_ ?_; rotate_left; (focus (intro w' hS; go_simp; exact rfl)); simp only [Act.put, List.setIfInBounds_toArray, List.set_cons_zero, List.set_cons_succ, List.getElem_toArray, List.getElem_cons_zero, List.getElem_cons_succ])
            refine pl_end ?_
            have HCR := Lib.hid (fun (e8 : E = 8) (c : Int) => (show ∃ all2 st2, CrashI sy c ((s1, s2), bl) (upS (s1, s2) (x1, x2), bl ++ L.map Prod.fst) i all2 st2 from by
              rcases HE.out with ⟨e0, _⟩ | ⟨_, k, hk⟩
              · exact absurd (e8.symm.trans e0) (by omega)
              · exact crash_lost HLG.out HR.out.1 (fun b hb => by obtain ⟨y, hy, rfl⟩ := List.mem_map.1 hb; exact HR.out.2 y hy) (by rw [List.length_map]; exact F5.out) (by omega) HSY.out hk c))
            rcases HE.out with ⟨rfl, all1, hl1⟩ | ⟨rfl, k, hk⟩
            · have HL1 := Lib.hid hl1
              clear HCR HE hl1
              have HK := Lib.hid (show B.length + L.length = (B ++ L).length from List.length_append.symm)
              obtain ⟨N, hN⟩ : ∃ N, B.length + L.length = N := ⟨_, rfl⟩
              have HK2 := Lib.hid (show N = B.length + L.length from hN.symm)
              obtain ⟨AL, hAL⟩ : ∃ AL, B ++ L = AL := ⟨_, rfl⟩
              rw [hN] at P12 HCAP HK
              rw [hAL] at P12 HK
              have HAM := Lib.hid (show AL.map Prod.fst = bl ++ L.map Prod.fst by rw [← hAL, List.map_append, HMB.out])
              rw [hN]
              clear hN hAL
              go_upto_region 18 with fail
              refine tail_abs 19 (by kernel_rfl) (by kernel_rfl) fun wa hsa => ?_
              have PA := Lib.hid (P12.out.low (hsa.below _))
              clear hsa
              obtain ⟨c0, c1, _, _, _, _, _⟩ := HCE.out wa PA.out.below
              obtain ⟨d0, d1⟩ := cells2 PA.out.y_
              have f0 := PA.out.y_.frz 0
              have f1 := PA.out.y_.frz 1
              simp only [List.take_succ_cons, List.take_zero, List.drop_succ_cons, List.drop_zero]
              repeat still_step
              refine wpStill_nil ?_
              clear c0 c1
              go_upto_region 19 with fail
              obtain ⟨xi, ui⟩ := rset2 PA.out.y_ (.int .i64 (max s1 x1)) (.int .i64 (max s2 x2))
              refine abs_wp (fun wx => Sw C w wx m g y z (0 = 0) (upS (s1, s2) (x1, x2), bl ++ L.map Prod.fst) sy (max s1 x1, max s2 x2) (max s1 x1, max s2 x2) (.slice a4 N c4) AL) (Sw.storeY PA.out xi ui) ?_
              clear xi ui d0 d1 f0 f1
              intro wb hpb
              have PB := Lib.hid hpb
              clear hpb
              obtain ⟨_, _, _, _, _, c5, c6⟩ := HCE.out wb PB.out.below
              cases cr
              · go_wp2_with fail
                go_roundw
                case rel => exact ⟨i + 1, sy, all1, (upS (s1, s2) (x1, x2), bl ++ L.map Prod.fst), AL, m, by have := HLT.out; omega, by go_num, rfl, by rw [← HK.out], PB.out.imp fun _ => rfl, HAM.out, HL1.out⟩
                case measure => have := HLT.out; simp [intOf]; omega
              · go_upto_region 21 with fail
                obtain ⟨all2, st2, hcr⟩ := crash_done HL1.out (by omega) kp
                have HX2 := Lib.hid hcr
                obtain ⟨⟨t1, t2⟩, bl2⟩ := st2
                have HOK2 := Lib.hid (hcr.log.okT (by omega))
                clear hcr
                go_wp2_with fail
                refine (crash_sw PB.out (by have := HSY.out; omega)).mono ?_
                rintro e w13 ⟨rfl, h13⟩
                have P13 := Lib.hid h13
                clear h13 c5 c6
                go_wp2_with fail
                refine (open_sw P13.out HX2.out.ok HX2.out.size (by rw [HX2.out.recs]; exact HX2.out.alen) HX2.out.gone).mono ?_
                rintro e w14 ⟨m2, rfl, h14⟩
                rw [HX2.out.recs, HX2.out.rec_] at h14
                have P14 := Lib.hid h14
                have HL2 := Lib.hid HX2.out.log
                clear h14
                obtain ⟨sz, hsz⟩ : ∃ sz, cutL (crashL sy kp) = sz := ⟨_, rfl⟩
                rw [hsz] at P14 HL2
                clear hsz
                go_wp2_with fail
                refine (blocks_sw P14.out HOK2.out).mono ?_
                rintro e w15 ⟨u1, L1, rfl, hm1, h15, hv15, hb15⟩
                obtain ⟨va, vc, rfl⟩ := bv_shape h15.bv
                have P15 := Lib.hid h15
                have HV15 := Lib.hid hv15
                have HM1 := Lib.hid (show L1.map Prod.fst = bl2 from hm1)
                clear h15 hv15 hb15 hm1
                go_wp2_with fail
                refine (state_sw P15.out HOK2.out).mono ?_
                rintro e w16 ⟨rfl, hb16⟩
                have P16 := Lib.hid (P15.out.low hb16)
                have HV16 := Lib.hid (HV15.out.later hb16)
                clear hb16
                simp only
                go_upto_region 28 with fail
                refine abs_wp (fun wx => Below w16.heap.size w16 wx ∧ Blk wx w16.heap.size 2 (rowL [.int .i64 t1, .int .i64 t2])) ⟨(Below.refl w16.heap.size w16).alloc (Nat.le_refl _) _, Blk.new' rfl (row2_ _ _)⟩ ?_
                rintro w17 ⟨hb17, hx17⟩
                have P17 := Lib.hid (P16.out.low hb17)
                have HV17 := Lib.hid (HV16.out.later hb17)
                have HYX := Lib.hid (show y < w16.heap.size ∧ z < w16.heap.size from ⟨P16.out.y_.lt, P16.out.z_.lt⟩)
                obtain ⟨b, hb⟩ : ∃ b, w16.heap.size = b := ⟨_, rfl⟩
                rw [hb] at hx17 HYX
                rw [hb]
                have BX := Lib.hid hx17
                have HLT1 := Lib.hid (show L1.length = bl2.length from by have h1 := congrArg List.length HM1.out; rwa [List.length_map] at h1)
                have HLE := Lib.hid (show N ≤ L1.length ∧ L1.length ≤ N from by
                  have h1 := HX2.out.len; have h2 := HX2.out.pre.length_le; have h3 := congrArg List.length HAM.out; have h4 := HLT1.out; have h5 := HBN.out; have h6 := HK.out
                  rw [List.length_map] at h3; simp only at h1 h2; rw [← h3] at h1 h2; omega)
                have HTK := Lib.hid (show (AL.take L1.length).map Prod.fst = bl2 from by
                  obtain ⟨t, ht⟩ := HX2.out.pre
                  simp only at ht
                  rw [List.map_take, HAM.out, ← ht, HLT1.out, List.take_left])
                have HSM := Lib.hid (show decide (textsB L1 = textsB (AL.take L1.length)) = true from decide_eq_true (texts_same (HM1.out.trans HTK.out.symm)))
                have v1 : ¬ t1 < max s1 x1 := by have := HX2.out.lo_.1; simp only [upS] at this; omega
                have v2 : ¬ t2 < max s2 x2 := by have := HX2.out.lo_.2; simp only [upS] at this; omega
                have v3 : ¬ t1 > max s1 x1 := by have := HX2.out.hi_.1; simp only [upS] at this; omega
                have v4 : ¬ t2 > max s2 x2 := by have := HX2.out.hi_.2; simp only [upS] at this; omega
                have v5 : ¬ (L1.length : Int) < (N : Int) := by have := HLE.out; omega
                have v6 : ¬ (L1.length : Int) > (N : Int) := by have := HLE.out; omega
                obtain ⟨d0, d1⟩ := cells2 P17.out.y_
                obtain ⟨d2, d3⟩ := cells2 P17.out.z_
                obtain ⟨d4, d5⟩ := cells2 BX.out
                clear hb17 hx17 hb
                go_wp2_with (with_reducible refine hold_slice6 rfl ?_)
                refine wpl_slice_hi (.tmp 187) (.tmp 189) (by rfl) rfl (by rfl) (by rfl) (under_tb _) (size_tb _) (by have := HLE.out; have := HCAP.out; omega) ?_
                clear v1 v2 v3 v4 v5 v6 d0 d1 d2 d3 d4 d5
                go_wp2_with fail
                refine (rsame10_any L1 (AL.take L1.length) _ _ w17 P17.out.bv (bv_take HV17.out L1.length c4 (by have := HLE.out; have := HK.out; omega)) (small_all HM1.out HOK2.out.2.1) (small_all (HTK.out) HOK2.out.2.1) (by have := HLE.out; have := HLB.out; have := HK2.out; omega)).mono ?_
                rintro e w18 ⟨rfl, hb18⟩
                rw [HSM.out]
                have P18 := Lib.hid (P17.out.low hb18)
                have B18 := Lib.hid (BX.out.below hb18 BX.out.lt)
                clear hb18
                obtain ⟨d4, d5⟩ := cells2 B18.out
                obtain ⟨d0, d1⟩ := cells2 P18.out.y_
                have f0 := P18.out.y_.frz 0
                have f1 := P18.out.y_.frz 1
                go_upto_region 33 with fail
                obtain ⟨xi, ui⟩ := rset2 P18.out.y_ (.int .i64 t1) (.int .i64 t2)
                refine abs_wp (fun wx => Sw C w wx m2 g y z True ((t1, t2), bl2) sz (t1, t2) (max s1 x1, max s2 x2) (.slice va L1.length vc) L1 ∧ Blk wx b 2 (rowL [.int .i64 t1, .int .i64 t2])) ⟨Sw.storeY P18.out xi ui, B18.out.upd ui (by have := HYX.out; omega)⟩ ?_
                clear xi ui d0 d1 d4 d5 f0 f1
                rintro w19 ⟨hp19, hx19⟩
                have P19 := Lib.hid hp19
                have B19 := Lib.hid hx19
                clear hp19 hx19
                obtain ⟨d4, d5⟩ := cells2 B19.out
                obtain ⟨d0, d1⟩ := cells2 P19.out.z_
                have f0 := P19.out.z_.frz 0
                have f1 := P19.out.z_.frz 1
                go_wp2_with fail
                go_roundw
                case rel =>
                  obtain ⟨xi, ui⟩ := rset2 P19.out.z_ (.int .i64 t1) (.int .i64 t2)
                  exact ⟨i + 1, sz, all2, ((t1, t2), bl2), L1, m2, by have := HLT.out; omega, by go_num, rfl, rfl, Sw.storeZ P19.out xi ui, HM1.out, HL2.out⟩
                case measure => have := HLT.out; simp [intOf]; omega
            · clear HE hk
              obtain ⟨_, _, _, _, _, c5, c6⟩ := HCE.out w12 P12.out.below
              obtain ⟨all2, st2, hcr⟩ := HCR.out rfl kp
              have HX2 := Lib.hid hcr
              obtain ⟨⟨t1, t2⟩, bl2⟩ := st2
              have HOK2 := Lib.hid (hcr.log.okT (by omega))
              have HK := Lib.hid (show B.length + L.length = (B ++ L).length from List.length_append.symm)
              obtain ⟨N, hN⟩ : ∃ N, B.length + L.length = N := ⟨_, rfl⟩
              have HK2 := Lib.hid (show N = B.length + L.length from hN.symm)
              obtain ⟨AL, hAL⟩ : ∃ AL, B ++ L = AL := ⟨_, rfl⟩
              rw [hN] at P12 HCAP HK
              rw [hAL] at P12 HK
              have HAM := Lib.hid (show AL.map Prod.fst = bl ++ L.map Prod.fst by rw [← hAL, List.map_append, HMB.out])
              rw [hN]
              clear hN hAL hcr HCR
              go_wp2_with fail
              refine (crash_sw P12.out (by have := HSY.out; omega)).mono ?_
              rintro e w13 ⟨rfl, h13⟩
              have P13 := Lib.hid h13
              clear h13 c5 c6
              go_wp2_with fail
              refine (open_sw P13.out HX2.out.ok HX2.out.size (by rw [HX2.out.recs]; exact HX2.out.alen) HX2.out.gone).mono ?_
              rintro e w14 ⟨m2, rfl, h14⟩
              rw [HX2.out.recs, HX2.out.rec_] at h14
              have P14 := Lib.hid h14
              have HL2 := Lib.hid HX2.out.log
              clear h14
              obtain ⟨sz, hsz⟩ : ∃ sz, cutL (crashL sy kp) = sz := ⟨_, rfl⟩
              rw [hsz] at P14 HL2
              clear hsz
              go_wp2_with fail
              refine (blocks_sw P14.out HOK2.out).mono ?_
              rintro e w15 ⟨u1, L1, rfl, hm1, h15, hv15, hb15⟩
              obtain ⟨va, vc, rfl⟩ := bv_shape h15.bv
              have P15 := Lib.hid h15
              have HV15 := Lib.hid hv15
              have HM1 := Lib.hid (show L1.map Prod.fst = bl2 from hm1)
              clear h15 hv15 hb15 hm1
              go_wp2_with fail
              refine (state_sw P15.out HOK2.out).mono ?_
              rintro e w16 ⟨rfl, hb16⟩
              have P16 := Lib.hid (P15.out.low hb16)
              have HV16 := Lib.hid (HV15.out.later hb16)
              clear hb16
              simp only
              go_upto_region 28 with fail
              refine abs_wp (fun wx => Below w16.heap.size w16 wx ∧ Blk wx w16.heap.size 2 (rowL [.int .i64 t1, .int .i64 t2])) ⟨(Below.refl w16.heap.size w16).alloc (Nat.le_refl _) _, Blk.new' rfl (row2_ _ _)⟩ ?_
              rintro w17 ⟨hb17, hx17⟩
              have P17 := Lib.hid (P16.out.low hb17)
              have HV17 := Lib.hid (HV16.out.later hb17)
              have HYX := Lib.hid (show y < w16.heap.size ∧ z < w16.heap.size from ⟨P16.out.y_.lt, P16.out.z_.lt⟩)
              obtain ⟨b, hb⟩ : ∃ b, w16.heap.size = b := ⟨_, rfl⟩
              rw [hb] at hx17 HYX
              rw [hb]
              have BX := Lib.hid hx17
              have HLT1 := Lib.hid (show L1.length = bl2.length from by have h1 := congrArg List.length HM1.out; rwa [List.length_map] at h1)
              have HLE := Lib.hid (show B.length ≤ L1.length ∧ L1.length ≤ N from by
                have h1 := HX2.out.len; have h2 := HX2.out.pre.length_le; have h3 := congrArg List.length HAM.out; have h4 := HLT1.out; have h5 := HBN.out; have h6 := HK.out
                rw [List.length_map] at h3; simp only at h1 h2; omega)
              have HTK := Lib.hid (show (AL.take L1.length).map Prod.fst = bl2 from by
                obtain ⟨t, ht⟩ := HX2.out.pre
                simp only at ht
                rw [List.map_take, HAM.out, ← ht, HLT1.out, List.take_left])
              have HSM := Lib.hid (show decide (textsB L1 = textsB (AL.take L1.length)) = true from decide_eq_true (texts_same (HM1.out.trans HTK.out.symm)))
              have v1 : ¬ t1 < s1 := by have := HX2.out.lo_.1; simp only at this; omega
              have v2 : ¬ t2 < s2 := by have := HX2.out.lo_.2; simp only at this; omega
              have v3 : ¬ t1 > max s1 x1 := by have := HX2.out.hi_.1; simp only [upS] at this; omega
              have v4 : ¬ t2 > max s2 x2 := by have := HX2.out.hi_.2; simp only [upS] at this; omega
              have v5 : ¬ (L1.length : Int) < (B.length : Int) := by have := HLE.out; omega
              have v6 : ¬ (L1.length : Int) > (N : Int) := by have := HLE.out; omega
              obtain ⟨d0, d1⟩ := cells2 P17.out.y_
              obtain ⟨d2, d3⟩ := cells2 P17.out.z_
              obtain ⟨d4, d5⟩ := cells2 BX.out
              clear hb17 hx17 hb
              go_wp2_with (with_reducible refine hold_slice6 rfl ?_)
              refine wpl_slice_hi (.tmp 187) (.tmp 189) (by rfl) rfl (by rfl) (by rfl) (under_tb _) (size_tb _) (by have := HLE.out; have := HCAP.out; omega) ?_
              clear v1 v2 v3 v4 v5 v6 d0 d1 d2 d3 d4 d5
              go_wp2_with fail
              refine (rsame10_any L1 (AL.take L1.length) _ _ w17 P17.out.bv (bv_take HV17.out L1.length c4 (by have := HLE.out; have := HK.out; omega)) (small_all HM1.out HOK2.out.2.1) (small_all (HTK.out) HOK2.out.2.1) (by have := HLE.out; have := HLB.out; have := HK2.out; omega)).mono ?_
              rintro e w18 ⟨rfl, hb18⟩
              rw [HSM.out]
              have P18 := Lib.hid (P17.out.low hb18)
              have B18 := Lib.hid (BX.out.below hb18 BX.out.lt)
              clear hb18
              obtain ⟨d4, d5⟩ := cells2 B18.out
              obtain ⟨d0, d1⟩ := cells2 P18.out.y_
              have f0 := P18.out.y_.frz 0
              have f1 := P18.out.y_.frz 1
              go_upto_region 33 with fail
              obtain ⟨xi, ui⟩ := rset2 P18.out.y_ (.int .i64 t1) (.int .i64 t2)
              refine abs_wp (fun wx => Sw C w wx m2 g y z True ((t1, t2), bl2) sz (t1, t2) (max s1 x1, max s2 x2) (.slice va L1.length vc) L1 ∧ Blk wx b 2 (rowL [.int .i64 t1, .int .i64 t2])) ⟨Sw.storeY P18.out xi ui, B18.out.upd ui (by have := HYX.out; omega)⟩ ?_
              clear xi ui d0 d1 d4 d5 f0 f1
              rintro w19 ⟨hp19, hx19⟩
              have P19 := Lib.hid hp19
              have B19 := Lib.hid hx19
              clear hp19 hx19
              obtain ⟨d4, d5⟩ := cells2 B19.out
              obtain ⟨d0, d1⟩ := cells2 P19.out.z_
              have f0 := P19.out.z_.frz 0
              have f1 := P19.out.z_.frz 1
              go_wp2_with fail
              go_roundw
              case rel =>
                obtain ⟨xi, ui⟩ := rset2 P19.out.z_ (.int .i64 t1) (.int .i64 t2)
                exact ⟨i + 1, sz, all2, ((t1, t2), bl2), L1, m2, by have := HLT.out; omega, by go_num, rfl, rfl, Sw.storeZ P19.out xi ui, HM1.out, HL2.out⟩
              case measure => have := HLT.out; simp [intOf]; omega
        · have HR := Lib.hid (decide_eq_false hr)
          rw [HR.out]
          clear hr
          go_wp2_with fail
          go_roundw
          case rel => exact ⟨i + 1, s, all, ((s1, s2), bl), B, m, by have := HLT.out; omega, by go_num, rfl, rfl, P5.out, HMB.out, HLG.out.more⟩
          case measure => have := HLT.out; simp [intOf]; omega
      · obtain rfl : i = l.length := by omega
        have hlt' : ¬ ((l.length : Nat) : Int) < ((l.length : Nat) : Int) := by omega
        clear hi hlt
        go_wp2_with fail
        go_ret
        exact ⟨rfl, HBL.out⟩
end Go.Proofs.YtnahebfhhcebpaaGreat
end
section
open Go Go.RowKit
namespace TT
open SS RR WW BB FF
theorem readS_is {v l : Int} {s : StT} (h : readS (bytesS v l) = some s) : decide (s = (v, l)) = decide (rightS (v, l)) := by
  by_cases hr : rightS (v, l)
  · rw [read_bytes hr] at h
    injection h with h
    subst h
    simp [hr]
  · have hne : s ≠ (v, l) := by rintro rfl; exact hr (readS_right h)
    simp [hne, hr]
theorem readS_no {v l : Int} (h : readS (bytesS v l) = none) : decide (rightS (v, l)) = false := decide_eq_false fun hr => by rw [read_bytes hr] at h; cases h
end TT
namespace Go.Proofs.YtnahebfhhcebpaaGreat
open TT SS RR FF WW BB
set_option maxRecDepth 100000 in
set_option maxHeartbeats 2000000 in
theorem record_any (v l : Int) (w : World) : Calls Tryz.prog 17 #[.agg #[.int .i64 v, .int .i64 l]] w fun e w' => e = .returned (.string (rcS (v, l))) ∧ Below w.heap.size w w' := by
  have X1 := Lib.hid ((Below.refl w.heap.size w).alloc (Nat.le_refl _) (.cells #[.int .i64 v, .int .i64 l] 33))
  have hno : ¬ 9223372036854775807 < (⟨#[83]⟩ : ByteArray).size + (bytesS v l).size := by rw [bytes_size]; decide
  go_enter Tryz.func17, Tryz.ntmps17
  go_wp2_with fail
  refine (bytes_any v l _).mono ?_
  rintro e w1 ⟨rfl, hb1⟩
  have X2 := Lib.hid (X1.out.trans (hb1.mono X1.out.size))
  clear hb1
  go_wp2_with fail
  go_ret
  exact ⟨rfl, X2.out⟩
set_option maxRecDepth 100000 in
set_option maxHeartbeats 2000000 in
theorem blockrec_any (x : Bv) (w : World) (hi : InnB w x) (hs : SmallD x.1) : Calls Tryz.prog 19 #[bvV x] w fun e w' => e = .returned (.string (rcB x.1)) ∧ Below w.heap.size w w' := by
  obtain ⟨⟨⟨⟨v, p⟩, ⟨⟨cv, k⟩, l⟩⟩, m⟩, sv, rv⟩ := x
  obtain ⟨h1, h2⟩ := hi
  obtain ⟨s1, s2, s3⟩ := hs
  replace h1 : SigsAt w sv l := h1
  replace h2 : ReqsAt w rv m := h2
  replace s1 : k.size ≤ 1000000 := s1
  replace s2 : SmallS l := s2
  replace s3 : SmallR m := s3
  have hno : ¬ 9223372036854775807 < (⟨#[66]⟩ : ByteArray).size + (blockB v p cv k l m).size := by
    unfold blockB
    simp only [ByteArray.size_append, num_size, certB_size, flat_size]
    have := s2.2.1; have := s3.2.1
    show ¬ 9223372036854775807 < 1 + _
    omega
  show Calls Tryz.prog 19 #[.agg #[.int .i64 v, .int .i64 p, .int .i64 cv, .string k, sv, rv]] w fun e w' => e = .returned (.string ((⟨#[66]⟩ : ByteArray) ++ blockB v p cv k l m)) ∧ Below w.heap.size w w'
  have HX := Lib.hid (fun wx (hb : Below w.heap.size w wx) => block_any v p cv k sv rv l m wx (h1.later hb) (h2.later hb) s1 s2 s3)
  obtain ⟨a0, cap, rfl, _⟩ := h1
  obtain ⟨a1, cap1, rfl, _⟩ := h2
  have X1 := Lib.hid ((Below.refl w.heap.size w).alloc (Nat.le_refl _) (.cells #[.int .i64 v, .int .i64 p, .int .i64 cv, .string k, .slice a0 l.length cap, .slice a1 m.length cap1] 47))
  clear s1 s2 s3
  go_enter Tryz.func19, Tryz.ntmps19
  go_wp2_with fail
  refine (HX.out _ X1.out).mono ?_
  rintro e w1 ⟨rfl, hb1⟩
  have X2 := Lib.hid (X1.out.trans (hb1.mono X1.out.size))
  clear hb1
  go_wp2_with fail
  go_ret
  exact ⟨rfl, X2.out⟩
set_option maxRecDepth 100000 in
set_option maxHeartbeats 2000000 in
/-- the state of the greater one of both views each -/
theorem greatest_any (s x : StT) (w : World) : Calls Tryz.prog 32 #[.agg #[.int .i64 s.1, .int .i64 s.2], .agg #[.int .i64 x.1, .int .i64 x.2]] w fun e w' => e = .returned (.agg #[.int .i64 (upS s x).1, .int .i64 (upS s x).2]) ∧ Below w.heap.size w w' := by
  obtain ⟨a, b⟩ := s
  obtain ⟨c, d⟩ := x
  have B3 := Lib.hid ((((Below.refl w.heap.size w).alloc (Nat.le_refl _) (.cells #[.int .i64 a, .int .i64 b] 33)).alloc (by simp) (.cells #[.int .i64 c, .int .i64 d] 33)).alloc (by simp; omega) (.cells #[.int .i64 0, .int .i64 0] 33))
  have C3 := Lib.hid (show Blk (((w.alloc (.cells #[.int .i64 a, .int .i64 b] 33)).alloc (.cells #[.int .i64 c, .int .i64 d] 33)).alloc (.cells #[.int .i64 0, .int .i64 0] 33)) (w.heap.size + 2) 2 (rowL [.int .i64 0, .int .i64 0]) from Blk.new' (by simp) (row2_ _ _))
  have D1 := Lib.hid (show Blk (((w.alloc (.cells #[.int .i64 a, .int .i64 b] 33)).alloc (.cells #[.int .i64 c, .int .i64 d] 33)).alloc (.cells #[.int .i64 0, .int .i64 0] 33)) w.heap.size 2 (rowL [.int .i64 a, .int .i64 b]) from ((Blk.new' rfl (row2_ _ _)).alloc _).alloc _)
  have D2 := Lib.hid (show Blk (((w.alloc (.cells #[.int .i64 a, .int .i64 b] 33)).alloc (.cells #[.int .i64 c, .int .i64 d] 33)).alloc (.cells #[.int .i64 0, .int .i64 0] 33)) (w.heap.size + 1) 2 (rowL [.int .i64 c, .int .i64 d]) from (Blk.new' (by simp) (row2_ _ _)).alloc _)
  obtain ⟨w3, hw3⟩ : ∃ w3, ((w.alloc (.cells #[.int .i64 a, .int .i64 b] 33)).alloc (.cells #[.int .i64 c, .int .i64 d] 33)).alloc (.cells #[.int .i64 0, .int .i64 0] 33) = w3 := ⟨_, rfl⟩
  have HW3 := Lib.hid hw3
  rw [hw3] at B3 C3 D1 D2
  clear hw3
  go_enter Tryz.func32, Tryz.ntmps32
  go_upto_region 1 with fail
  rw [HW3.out]
  obtain ⟨q0, q1⟩ := cells2 D1.out
  obtain ⟨r0, r1⟩ := cells2 D2.out
  obtain ⟨x0, x1⟩ := cells2 C3.out
  have f0 := C3.out.frz 0
  have f1 := C3.out.frz 1
  go_wp2_with fail
  obtain ⟨xi, ui⟩ := rset2 C3.out (.int .i64 (max a c)) (.int .i64 (max b d))
  obtain ⟨p0, p1⟩ := cells2 xi
  refine bodyPost_ret (v := .agg #[.int .i64 (max a c), .int .i64 (max b d)]) (by simp [results, Tryz.results32, go_sem, p0, p1]) rfl ⟨rfl, ?_⟩
  exact B3.out.trans (ui.below (by omega))
set_option maxRecDepth 100000 in
set_option maxHeartbeats 2000000 in
/-- is a state read as it was? -/
theorem readable_any (v l : Int) (w : World) : Calls Tryz.prog 28 #[.agg #[.int .i64 v, .int .i64 l]] w fun e w' => e = .returned (.bool (decide (rightS (v, l)))) ∧ Below w.heap.size w w' := by
  have X1 := Lib.hid ((Below.refl w.heap.size w).alloc (Nat.le_refl _) (.cells #[.int .i64 v, .int .i64 l] 33))
  have Q1 := Lib.hid (show Blk (w.alloc (.cells #[.int .i64 v, .int .i64 l] 33)) w.heap.size 2 (rowL [.int .i64 v, .int .i64 l]) from Blk.new' rfl (row2_ _ _))
  obtain ⟨w1, hw1⟩ : ∃ w1, w.alloc (.cells #[.int .i64 v, .int .i64 l] 33) = w1 := ⟨_, rfl⟩
  have HW1 := Lib.hid hw1
  rw [hw1] at X1 Q1
  clear hw1
  obtain ⟨X, hX⟩ : ∃ X, decide (rightS (v, l)) = X := ⟨_, rfl⟩
  rw [hX]
  have HX := Lib.hid hX
  clear hX
  go_enter Tryz.func28, Tryz.ntmps28
  go_upto_region 1 with fail
  rw [HW1.out]
  obtain ⟨q0, q1⟩ := cells2 Q1.out
  go_wp2_with fail
  refine (bytes_any v l w1).mono ?_
  rintro e w2 ⟨rfl, hb2⟩
  have X2 := Lib.hid (X1.out.trans (hb2.mono X1.out.size))
  have Q2 := Lib.hid (Q1.out.below hb2 Q1.out.lt)
  clear hb2 q0 q1
  go_wp2_with fail
  cases hr : readS (bytesS v l) with
  | none =>
    have HR := Lib.hid hr
    refine (readst_none _ w2 hr).mono ?_
    rintro e w3 ⟨rfl, hb3⟩
    have X3 := Lib.hid (X2.out.trans (hb3.mono X2.out.size))
    clear hb3 hr
    go_wp2_with fail
    go_ret
    exact ⟨by rw [← HX.out, readS_no HR.out]; rfl, X3.out.alloc X3.out.size _⟩
  | some s =>
    have HR := Lib.hid hr
    refine (readst_some _ s w2 hr).mono ?_
    rintro e w3 ⟨rfl, hb3⟩
    have X3 := Lib.hid (X2.out.trans (hb3.mono X2.out.size))
    have Q3 := Lib.hid (Q2.out.below hb3 Q2.out.lt)
    clear hb3 hr
    have Q4 := Lib.hid (Q3.out.alloc (.cells #[.int .i64 s.1, .int .i64 s.2] 33))
    have HE := Lib.hid (readS_is HR.out)
    obtain ⟨s1, s2⟩ := s
    obtain ⟨q0, q1⟩ := cells2 Q4.out
    by_cases e1 : s1 = v
    · by_cases e2 : s2 = l
      · subst e1 e2
        have HEX := Lib.hid (show true = X by rw [← HX.out, ← HE.out]; simp)
        go_wp2_with fail
        go_ret
        exact ⟨by rw [← HEX.out]; rfl, X3.out.alloc X3.out.size _⟩
      · have HEX := Lib.hid (show false = X by rw [← HX.out, ← HE.out]; symm; rw [decide_eq_false_iff_not]; intro h; injection h with _ h; exact e2 h)
        subst e1
        go_wp2_with fail
        go_ret
        exact ⟨by rw [← HEX.out]; rfl, X3.out.alloc X3.out.size _⟩
    · have HEX := Lib.hid (show false = X by rw [← HX.out, ← HE.out]; symm; rw [decide_eq_false_iff_not]; intro h; injection h with h _; exact e1 h)
      go_wp2_with fail
      go_ret
      exact ⟨by rw [← HEX.out]; rfl, X3.out.alloc X3.out.size _⟩
end Go.Proofs.YtnahebfhhcebpaaGreat
end
section
open Go Go.RowKit
namespace TT
open SS RR FF WW BB
/-- the memory in block g -/
structure Mm (tB : TypeId) (g : Nat) (s : StT) (L : List Bv) (x : Value) (w : World) : Prop where
  blk : Blk w g 3 (rowL [.int .i64 s.1, .int .i64 s.2, x])
  row : w.ownsRow (g + 1) tB 6 x L.length (cellsB L)
  inn : ∀ y ∈ L, Dep (fun b => g + 1 ≤ b ∧ x.ownBlock ≠ some b) w (fun w' => InnB w' y)
section
variable {tB : TypeId} {g : Nat} {s : StT} {L : List Bv} {x x' : Value} {w w' w1 : World}
theorem Mm.on (h : Mm tB g s L x w) (hb : Below w.heap.size w w') : Mm tB g s L x w' :=
  ⟨h.blk.below hb h.blk.lt, row_keep h.row fun c hc => hb.block c (h.row.lt c hc).2, fun y hy => (h.inn y hy).on (Keeps.of hb)⟩
theorem Mm.now (h : Mm tB g s L x w) : ∀ y ∈ L, InnB w y := fun y hy => (h.inn y hy).now
theorem Mm.sl (h : Mm tB g s L x w) : ∃ a c, x = .slice a L.length c := own_sl6 h.row
theorem Mm.ne (h : Mm tB g s L x w) : x.ownBlock ≠ some g := fun e => by have := (h.row.lt g e).1; omega
/-- another state -/
theorem Mm.set (h : Mm tB g s L x w) (s' : StT) : Mm tB g s' L x ((w.setCell ⟨g, 0, none⟩ (.int .i64 s'.1)).setCell ⟨g, 1, none⟩ (.int .i64 s'.2)) ∧ Below g w ((w.setCell ⟨g, 0, none⟩ (.int .i64 s'.1)).setCell ⟨g, 1, none⟩ (.int .i64 s'.2)) := by
  have hu : Upd g w ((w.setCell ⟨g, 0, none⟩ (.int .i64 s'.1)).setCell ⟨g, 1, none⟩ (.int .i64 s'.2)) := ((Upd.refl g w).trans (Upd.set _ _ _ _)).trans (Upd.set _ _ _ _)
  refine ⟨⟨((h.blk.set 0 (.int .i64 s'.1)).set 1 (.int .i64 s'.2)).congr _ fun i hi => ?_, row_keep h.row fun c hc => hu.block c (by have := (h.row.lt c hc).1; omega), fun y hy => (h.inn y hy).on (Keeps.upd hu fun b hb => by have := hb.1; omega)⟩, hu.below (Nat.le_refl _)⟩
  match i, hi with
  | 0, _ => rfl
  | 1, _ => rfl
  | 2, _ => rfl
/-- a block more -/
theorem Mm.push (h : Mm tB g s L x w) {y : Bv} (hy : Dep (fun b => g + 1 ≤ b ∧ x.ownBlock ≠ some b) w (fun w' => InnB w' y)) (hg : w.grownBy w1 x.ownBlock)
    (hr : w1.ownsRow (g + 1) tB 6 x' (L.length + 1) (cellsB L ++ encB y)) (hlo : ∀ c, x'.ownBlock = some c → x.ownBlock = some c ∨ w.heap.size ≤ c) :
    Mm tB g s (L ++ [y]) x' (w1.setCell ⟨g, 2, none⟩ x') ∧ Below g w (w1.setCell ⟨g, 2, none⟩ x') := by
  have hu : Upd g w1 (w1.setCell ⟨g, 2, none⟩ x') := (Upd.refl g w1).trans (Upd.set _ _ _ _)
  have hgl := h.blk.lt
  have hk : Keeps (fun b => g + 1 ≤ b ∧ x.ownBlock ≠ some b) w (w1.setCell ⟨g, 2, none⟩ x') := (Keeps.grown hg fun b e hb => hb.2 e).trans (Keeps.upd hu fun b hb => by have := hb.1; omega)
  have hb1 : Below g w w1 := (Below.refl g w).grown hg (by omega) (fun k hk => by have := (h.row.lt k hk).1; omega)
  refine ⟨⟨((h.blk.of_heap (hg.block g hgl (fun e => h.ne e.symm))).set 2 x').congr _ fun i hi => ?_, ?_, fun z hz => ?_⟩, hb1.trans (hu.below (Nat.le_refl _))⟩
  · match i, hi with
    | 0, _ => rfl
    | 1, _ => rfl
    | 2, _ => rfl
  · have hr2 := row_keep hr (w' := w1.setCell ⟨g, 2, none⟩ x') fun c hc => hu.block c (by have := (hr.lt c hc).1; omega)
    rw [List.length_append, cellsB_snoc]
    exact hr2
  · have hA : ∀ b, (g + 1 ≤ b ∧ x.ownBlock ≠ some b) → b < w.heap.size → (g + 1 ≤ b ∧ x'.ownBlock ≠ some b) := fun b hb hl => ⟨hb.1, fun e => (hlo b e).elim hb.2 fun h => by omega⟩
    rcases List.mem_append.1 hz with hz | hz
    · exact dep_step (h.inn z hz) hk hA
    · rw [List.mem_singleton.1 hz]
      exact dep_step hy hk hA
end
theorem mm_start (w : World) (g : Nat) (hg : w.heap.size = g) (t tB : TypeId) : Mm tB g (0, 0) [] (.slice none 0 0) (w.alloc (.cells #[.int .i64 0, .int .i64 0, .slice none 0 0] t)) := by
  subst hg
  exact ⟨Blk.new' rfl (row3_ _ _ _), World.ownsRow_nil _ _ _ _, fun y hy => by cases hy⟩
/-- what a record does to what is remembered -/
def TakeAns (tB : TypeId) (g : Nat) (s : StT) (L : List Bv) (x : Value) (w : World) (o : Option (StT ⊕ BlockD)) (e : Ending) (w' : World) : Prop :=
  Below g w w' ∧ match o with
  | none => e = .returned (.int .i64 2) ∧ Mm tB g s L x w'
  | some (.inl s') => e = .returned (.int .i64 0) ∧ Mm tB g (upS s s') L x w'
  | some (.inr d) => e = .returned (.int .i64 0) ∧ ∃ x' sv rv, Mm tB g s (L ++ [(d, sv, rv)]) x' w'
theorem blockrd_none : blockRd (⟨#[]⟩ : ByteArray) = none := by
  cases h : blockRd (⟨#[]⟩ : ByteArray) with
  | none => rfl
  | some d =>
    obtain ⟨h1, h2⟩ := blockRd_sound h
    have := (block_few h2).1
    rw [← h1] at this
    exact absurd this (by decide)
theorem one_83 {r : ByteArray} (_ : 0 < r.size) (h : r.data.toList.getD 0 0 = 83) : oneD r = (readS (r.extract 1 r.size)).map .inl := by
  unfold oneD
  by_cases h9 : r.size = 9
  · rw [if_pos ⟨h9, h⟩]
  · rw [if_neg (fun k => h9 k.1), if_neg (fun k => by rw [h] at k; exact absurd k.2 (by decide))]
    have : readS (r.extract 1 r.size) = none := by
      unfold readS
      rw [if_neg (by rw [ByteArray.size_extract]; omega)]
    rw [this]; rfl
theorem one_66 {r : ByteArray} (_ : 0 < r.size) (h : r.data.toList.getD 0 0 = 66) : oneD r = (blockRd (r.extract 1 r.size)).map .inr := by
  unfold oneD
  rw [if_neg (fun k => by rw [h] at k; exact absurd k.2 (by decide))]
  by_cases h1 : 1 < r.size
  · rw [if_pos ⟨h1, h⟩]
  · rw [if_neg (fun k => h1 k.1)]
    have : r.extract 1 r.size = ⟨#[]⟩ := by
      apply ba_ext
      rw [ByteArray.data_extract, Array.toList_extract, List.extract_eq_take_drop]
      apply List.eq_nil_of_length_eq_zero
      simp
      omega
    rw [this, blockrd_none]; rfl
theorem one_else {r : ByteArray} (h1 : r.data.toList.getD 0 0 ≠ 83) (h2 : r.data.toList.getD 0 0 ≠ 66) : oneD r = none := by
  unfold oneD
  rw [if_neg (fun k => h1 k.2), if_neg (fun k => h2 k.2)]
theorem one_empty : oneD (⟨#[]⟩ : ByteArray) = none := one_else (by decide) (by decide)
end TT
namespace Go.Proofs.YtnahebfhhcebpaaGreat
open TT SS RR FF JJ CC WW BB
section
variable {g : Nat} {s : StT} {L : List Bv} {x : Value} {w : World}
set_option maxRecDepth 100000 in
set_option maxHeartbeats 8000000 in
theorem takestate_any (b : ByteArray) (o : Option StT) (ho : readS b = o) (h : Mm 47 g s L x w) :
    Calls Tryz.prog 61 #[.pointer (some ⟨g, 0, none⟩), .string b] w (TakeAns 47 g s L x w (o.map .inl)) := by
  have H := Lib.hid h
  have HG := Lib.hid h.blk.lt
  clear h
  go_enter Tryz.func61, Tryz.ntmps61
  go_wp2_with fail
  cases o with
  | none =>
    refine (readst_none b w ho).mono ?_
    rintro e w1 ⟨rfl, hb1⟩
    have X1 := Lib.hid (hb1.alloc hb1.size (.cells #[.int .i64 0, .int .i64 0] 33))
    clear hb1 ho
    go_wp2_with fail
    go_ret
    exact ⟨X1.out.mono (Nat.le_of_lt HG.out), rfl, H.out.on X1.out⟩
  | some s' =>
    refine (readst_some b s' w ho).mono ?_
    rintro e w1 ⟨rfl, hb1⟩
    have X1 := Lib.hid (hb1.alloc hb1.size (.cells #[.int .i64 s'.1, .int .i64 s'.2] 33))
    have H1 := Lib.hid (H.out.on X1.out)
    have Q1 := Lib.hid (show Blk (w1.alloc (.cells #[.int .i64 s'.1, .int .i64 s'.2] 33)) w1.heap.size 2 (rowL [.int .i64 s'.1, .int .i64 s'.2]) from Blk.new' rfl (row2_ _ _))
    have HGQ := Lib.hid (show g < w1.heap.size from Nat.lt_of_lt_of_le HG.out hb1.size)
    obtain ⟨q, hq⟩ : ∃ q, w1.heap.size = q := ⟨_, rfl⟩
    obtain ⟨wy, hwy⟩ : ∃ wy, w1.alloc (.cells #[.int .i64 s'.1, .int .i64 s'.2] 33) = wy := ⟨_, rfl⟩
    have HWY := Lib.hid hwy
    have HQ := Lib.hid hq
    rw [hwy] at X1 H1 Q1
    rw [hq] at Q1 HGQ
    clear hb1 ho hwy hq
    go_upto_region 3 with fail
    rw [HWY.out, HQ.out]
    have HSC := Lib.hid (fun (wx : World) (hk : wx.heap[g]? = wy.heap[g]? ∧ wx.heap[q]? = wy.heap[q]?) => And.intro (cells3 (H1.out.blk.of_heap hk.1)) (cells2 (Q1.out.of_heap hk.2)))
    refine planE_abs (fun wx => wx.heap[g]? = wy.heap[g]? ∧ wx.heap[q]? = wy.heap[q]?) 9 [(true, 0), (true, 1), (true, 2), (true, 3), (true, 4), (true, 5), (false, 6), (false, 7), (false, 8), (false, 9)] (by kernel_rfl) (by kernel_rfl) (fun _ _ d _ _ h => by cases d <;> exact h) fun w5 hs5 => ⟨by rw [hs5.heap]; exact ⟨rfl, rfl⟩, ?_⟩
    have Y5 := Lib.hid (show Below wy.heap.size wy w5 from hs5.below _)
    clear hs5
    iterate 6 (refine pe_run _ ?_ rfl rfl ?_ ?_; rotate_left; (focus (intro w' hS; obtain ⟨⟨c0, c1, c2⟩, d0, d1⟩ := HSC.out w' hS; go_simp; exact rfl)); simp only [Act.put, List.setIfInBounds_toArray, List.set_cons_zero, List.set_cons_succ, List.getElem_toArray, List.getElem_cons_zero, List.getElem_cons_succ])
    refine pe_call (R := fun u w' => u = .agg #[.int .i64 (upS s s').1, .int .i64 (upS s s').2] ∧ Below w5.heap.size w5 w') _ rfl rfl (by go_simp) ((greatest_any s s' w5).mono fun e w' h => ⟨_, h.1, rfl, h.2⟩) (fun u w' h => by
      have hb := Y5.out.trans (h.2.mono Y5.out.size)
      exact ⟨hb.block g H1.out.blk.lt, hb.block q Q1.out.lt⟩) fun u w6 hr => ?_
    obtain ⟨rfl, hb6⟩ := hr
    have Y6 := Lib.hid (Y5.out.trans (hb6.mono Y5.out.size))
    have H6 := Lib.hid (H1.out.on Y6.out)
    have S6 := Lib.hid (show w6.heap[g]? = wy.heap[g]? ∧ w6.heap[q]? = wy.heap[q]? from ⟨Y6.out.block g H1.out.blk.lt, Y6.out.block q Q1.out.lt⟩)
    clear hb6
    simp only [Act.put, List.setIfInBounds_toArray, List.set_cons_zero, List.set_cons_succ, List.getElem_toArray, List.getElem_cons_zero, List.getElem_cons_succ]
    refine pe_value (w' := w6) _ (.pointer (some ⟨g, 0, none⟩)) rfl rfl (by go_simp) S6.out ?_
    simp only [Act.put, List.setIfInBounds_toArray, List.set_cons_zero, List.set_cons_succ, List.getElem_toArray, List.getElem_cons_zero, List.getElem_cons_succ]
    refine pe_value (w' := w6) _ (.pointer (some ⟨g, 0, none⟩)) rfl rfl (by go_simp) S6.out ?_
    simp only [Act.put, List.setIfInBounds_toArray, List.set_cons_zero, List.set_cons_succ, List.getElem_toArray, List.getElem_cons_zero, List.getElem_cons_succ]
    refine pe_last _ rfl ?_
    simp only [List.getElem_toArray, List.getElem_cons_zero, List.getElem_cons_succ]
    obtain ⟨e0, e1, e2⟩ := cells3 H6.out.blk
    have f0 := H6.out.blk.frz 0
    have f1 := H6.out.blk.frz 1
    obtain ⟨u0, u1⟩ : ∃ u : Int × Int, u = upS s s' := ⟨_, rfl⟩
    go_wp2_with fail
    go_ret
    obtain ⟨k1, k2⟩ := H6.out.set (upS s s')
    exact ⟨(X1.out.mono (Nat.le_of_lt HG.out)).trans ((Y6.out.mono (Nat.le_of_lt H1.out.blk.lt)).trans k2), rfl, k1⟩
set_option maxRecDepth 100000 in
set_option maxHeartbeats 8000000 in
theorem takeblock_any (b : ByteArray) (hb : b.size ≤ 1000000) (o : Option BlockD) (ho : blockRd b = o) (h : Mm 47 g s L x w) (hl : L.length ≤ 1000) :
    Calls Tryz.prog 62 #[.pointer (some ⟨g, 0, none⟩), .string b] w (TakeAns 47 g s L x w (o.map .inr)) := by
  have H := Lib.hid h
  have HG := Lib.hid h.blk.lt
  have HL := Lib.hid hl
  have HO := Lib.hid ho
  have HBZ := Lib.hid hb
  clear h hl ho hb
  go_enter Tryz.func62, Tryz.ntmps62
  go_wp2_with fail
  refine (read_block b HBZ.out w).mono ?_
  rintro e w1 ⟨hans, hb1⟩
  rw [HO.out] at hans
  cases o with
  | none =>
    have hans : e = .returned (.tuple #[.agg #[.int .i64 0, .int .i64 0, .int .i64 0, .string ⟨#[]⟩, .slice none 0 0, .slice none 0 0], .int .i64 2]) := hans
    subst hans
    have X1 := Lib.hid (hb1.alloc hb1.size (.cells #[.int .i64 0, .int .i64 0, .int .i64 0, .string ⟨#[]⟩, .slice none 0 0, .slice none 0 0] 47))
    clear hb1
    go_wp2_with fail
    go_ret
    exact ⟨X1.out.mono (Nat.le_of_lt HG.out), rfl, H.out.on X1.out⟩
  | some d =>
    obtain ⟨sv, rv, rfl, hin⟩ := blockans_dep hans
    have HIN := Lib.hid hin
    have HENC := Lib.hid (show encB (d, sv, rv) = [.int .i64 (viewI d), .int .i64 (propI d), .int .i64 (jvI d), .string (parI d), sv, rv] from rfl)
    have HXX := Lib.hid (fun c (hc : x.ownBlock = some c) => (H.out.row.lt c hc).2)
    obtain ⟨hsv, hrv⟩ := hin.now
    obtain ⟨sa, sc, hse, _⟩ := hsv
    obtain ⟨ra, rc, hre, _⟩ := hrv
    obtain ⟨sn, hsn⟩ : ∃ sn, (sigsI (d, sv, rv).1).length = sn := ⟨_, rfl⟩
    obtain ⟨rn, hrn⟩ : ∃ rn, ((d, sv, rv) : Bv).1.2.length = rn := ⟨_, rfl⟩
    rw [hsn] at hse
    rw [hrn] at hre
    replace hse : sv = .slice sa sn sc := hse
    replace hre : rv = .slice ra rn rc := hre
    subst hse hre
    clear hans hin hsn hrn
    unfold bvV
    simp only
    obtain ⟨pv, hpv⟩ : ∃ pv, viewI d = pv := ⟨_, rfl⟩
    obtain ⟨pp, hpp⟩ : ∃ pp, propI d = pp := ⟨_, rfl⟩
    obtain ⟨pj, hpj⟩ : ∃ pj, jvI d = pj := ⟨_, rfl⟩
    obtain ⟨pk, hpk⟩ : ∃ pk, parI d = pk := ⟨_, rfl⟩
    rw [hpv, hpp, hpj, hpk] at HENC
    simp only [hpv, hpp, hpj, hpk]
    clear hpv hpp hpj hpk
    have BY := Lib.hid ((Below.refl w1.heap.size w1).alloc (Nat.le_refl _) (.cells #[.int .i64 pv, .int .i64 pp, .int .i64 pj, .string pk, .slice sa sn sc, .slice ra rn rc] 47))
    have X1 := Lib.hid (hb1.alloc hb1.size (.cells #[.int .i64 pv, .int .i64 pp, .int .i64 pj, .string pk, .slice sa sn sc, .slice ra rn rc] 47))
    have H1 := Lib.hid (H.out.on X1.out)
    have Q1 := Lib.hid (show Blk (w1.alloc (.cells #[.int .i64 pv, .int .i64 pp, .int .i64 pj, .string pk, .slice sa sn sc, .slice ra rn rc] 47)) w1.heap.size 6 (rowL [.int .i64 pv, .int .i64 pp, .int .i64 pj, .string pk, .slice sa sn sc, .slice ra rn rc]) from Blk.new' rfl (row6_ _ _ _ _ _ _))
    have D1 := Lib.hid ((HIN.out.more (A' := fun b => g + 1 ≤ b ∧ x.ownBlock ≠ some b) fun b hb _ => ⟨by have := HG.out; omega, fun e => by have := HXX.out b e; omega⟩).on (Keeps.of BY.out))
    obtain ⟨q, hq⟩ : ∃ q, w1.heap.size = q := ⟨_, rfl⟩
    obtain ⟨wy, hwy⟩ : ∃ wy, w1.alloc (.cells #[.int .i64 pv, .int .i64 pp, .int .i64 pj, .string pk, .slice sa sn sc, .slice ra rn rc] 47) = wy := ⟨_, rfl⟩
    have HWY := Lib.hid hwy
    have HQ := Lib.hid hq
    have HWW := Lib.hid (show w.heap.size ≤ w1.heap.size from hb1.size)
    rw [hwy] at X1 H1 Q1 D1
    rw [hq] at Q1
    clear hb1 hwy hq BY
    obtain ⟨xa, xc, hxs⟩ := H.out.sl
    have HXS := Lib.hid hxs
    go_upto_region 3 with fail
    rw [HWY.out, HQ.out]
    have HSC := Lib.hid (fun (wx : World) (hk : Below wy.heap.size wy wx) => And.intro (cells3 (H1.out.blk.below hk H1.out.blk.lt)) (cells6 (Q1.out.below hk Q1.out.lt)))
    clear hxs
    refine planE_abs (fun wx => wx.heap[g]? = wy.heap[g]? ∧ wx.heap[q]? = wy.heap[q]?) 10 [(true, 0), (true, 1), (true, 2), (true, 3), (true, 4), (true, 5), (false, 6), (false, 7), (false, 8), (false, 9), (false, 10)] (by kernel_rfl) (by kernel_rfl) (fun _ _ d _ _ h => by cases d <;> exact h) fun w5 hs5 => ⟨by rw [hs5.heap]; exact ⟨rfl, rfl⟩, ?_⟩
    have Y5 := Lib.hid (show Below wy.heap.size wy w5 from hs5.below _)
    clear hs5
    have HSD := Lib.hid (fun (wx : World) (hk : wx.heap[g]? = wy.heap[g]? ∧ wx.heap[q]? = wy.heap[q]?) => And.intro (cells3 (H1.out.blk.of_heap hk.1)) (cells6 (Q1.out.of_heap hk.2)))
    have H5 := Lib.hid (H1.out.on Y5.out)
    have D5 := Lib.hid (D1.out.on (Keeps.of Y5.out))
    iterate 6 (refine pe_run _ ?_ rfl rfl ?_ ?_; rotate_left; (focus (intro w' hS; obtain ⟨⟨c0, c1, c2⟩, d0, d1, d2, d3, d4, d5⟩ := HSD.out w' hS; go_simp; exact rfl)); simp only [Act.put, List.setIfInBounds_toArray, List.set_cons_zero, List.set_cons_succ, List.getElem_toArray, List.getElem_cons_zero, List.getElem_cons_succ])
    have BA := Lib.hid ((Below.refl w5.heap.size w5).alloc (Nat.le_refl _) (.cells #[.int .i64 pv, .int .i64 pp, .int .i64 pj, .string pk, .slice sa sn sc, .slice ra rn rc] 47))
    obtain ⟨wa, hwa⟩ : ∃ wa, w5.alloc (.cells #[.int .i64 pv, .int .i64 pp, .int .i64 pj, .string pk, .slice sa sn sc, .slice ra rn rc] 47) = wa := ⟨_, rfl⟩
    have HNW := Lib.hid (show ∀ i u, (encB (d, .slice sa sn sc, .slice ra rn rc))[i]? = some u → wa.cell? ((⟨w5.heap.size, 0, none⟩ : Addr).add i) = some u from fun i u hu => by
      have e : (⟨w5.heap.size, 0, none⟩ : Addr).add i = ⟨w5.heap.size, i, none⟩ := by unfold Addr.add; split <;> simp [*]
      rw [e, ← hwa]
      refine cell_new w5 _ _ i u ?_
      rw [← hu, HENC.out]
      simp)
    have HK6 := Lib.hid (fun (wx : World) (hb : Below w5.heap.size w5 wx) => show wx.heap[g]? = wy.heap[g]? ∧ wx.heap[q]? = wy.heap[q]? from ⟨(Y5.out.trans (hb.mono Y5.out.size)).block g H1.out.blk.lt, (Y5.out.trans (hb.mono Y5.out.size)).block q Q1.out.lt⟩)
    refine pe_value (w' := wa) _ (.slice (some ⟨w5.heap.size, 0, none⟩) 1 1) rfl rfl (by rw [← hwa]; go_simp) (HK6.out wa (by rw [← hwa]; exact BA.out)) ?_
    simp only [Act.put, List.setIfInBounds_toArray, List.set_cons_zero, List.set_cons_succ, List.getElem_toArray, List.getElem_cons_zero, List.getElem_cons_succ]
    rw [hwa] at BA
    clear hwa
    have HA := Lib.hid (H5.out.on BA.out)
    have DA := Lib.hid (D5.out.on (Keeps.of BA.out))
    obtain ⟨ti, i1, i2, i3, i4⟩ := info_parts tinfo_blk
    obtain ⟨v', w10, hrun, hown, hgr, _, hloc⟩ := run_append_own_at (P := Tryz.prog) (w := wa) (g + 1) 34 34 47 ti _ 6 88 tund_blks i1 i2 i3 i4 rfl (by decide) x L.length (cellsB L) HA.out.row ⟨w5.heap.size, 0, none⟩ 1 1 (encB (d, .slice sa sn sc, .slice ra rn rc)) rfl HNW.out (encB_one DA.out.now) (by have := HL.out; unfold maxLen; omega) (by have := HL.out; omega) (by have := HA.out.blk.lt; omega)
    obtain ⟨va, vc, rfl⟩ := own_sl6 hown
    have HLO := Lib.hid (show ∀ c, (Value.slice va (L.length + 1) vc).ownBlock = some c → x.ownBlock = some c ∨ wa.heap.size ≤ c from fun c hc => by
      rcases hloc with h | h
      · exact Or.inl (h ▸ hc)
      · rw [h] at hc; injection hc with hc; exact Or.inr (by omega))
    have HGR := Lib.hid hgr
    have HOW := Lib.hid hown
    have hgb := hgr.block g HA.out.blk.lt (fun e => HA.out.ne e.symm)
    have HGB := Lib.hid hgb
    have hqx : q < wa.heap.size := Nat.lt_of_lt_of_le Q1.out.lt (Nat.le_trans Y5.out.size BA.out.size)
    have S10 := Lib.hid (show w10.heap[g]? = wy.heap[g]? ∧ w10.heap[q]? = wy.heap[q]? from ⟨HGB.out.trans (HK6.out wa BA.out).1, (hgr.block q hqx (fun e => by
      have h1 := HXX.out q e.symm
      have h2 := Q1.out
      have h3 := HQ.out
      have h4 := HWW.out
      omega)).trans (HK6.out wa BA.out).2⟩)
    clear hgr hown hloc i1 i2 i3 i4 hgb hqx
    refine pe_value (w' := w10) _ (.slice va (L.length + 1) vc) rfl rfl (by simp [execOp, resolve, invoke, builtin, Act.eval, hrun, Result.andThen]) S10.out ?_
    clear hrun
    simp only [Act.put, List.setIfInBounds_toArray, List.set_cons_zero, List.set_cons_succ, List.getElem_toArray, List.getElem_cons_zero, List.getElem_cons_succ]
    refine pe_value (w' := w10) _ (.pointer (some ⟨g, 0, none⟩)) rfl rfl (by go_simp) S10.out ?_
    simp only [Act.put, List.setIfInBounds_toArray, List.set_cons_zero, List.set_cons_succ, List.getElem_toArray, List.getElem_cons_zero, List.getElem_cons_succ]
    refine pe_value (w' := w10) _ (.pointer (some ⟨g, 2, none⟩)) rfl rfl (by go_simp) S10.out ?_
    simp only [Act.put, List.setIfInBounds_toArray, List.set_cons_zero, List.set_cons_succ, List.getElem_toArray, List.getElem_cons_zero, List.getElem_cons_succ]
    refine pe_last _ rfl ?_
    simp only [List.getElem_toArray, List.getElem_cons_zero, List.getElem_cons_succ]
    obtain ⟨⟨e0, e1, e2⟩, _⟩ := HSD.out w10 S10.out
    have f2 := (World.frozen?_of_block (w := wy) (a := ⟨g, 2, none⟩) S10.out.1).trans (H1.out.blk.frz 2)
    go_wp2_with fail
    go_ret
    obtain ⟨k1, k2⟩ := HA.out.push DA.out HGR.out HOW.out HLO.out
    exact ⟨(X1.out.mono (Nat.le_of_lt HG.out)).trans ((Y5.out.mono (Nat.le_of_lt H1.out.blk.lt)).trans ((BA.out.mono (by have := H5.out.blk.lt; omega)).trans k2)), rfl, _, _, _, k1⟩
set_option maxRecDepth 100000 in
set_option maxHeartbeats 8000000 in
/-- one record more -/
theorem take_any (r : ByteArray) (hr : r.size ≤ 1000000) (h : Mm 47 g s L x w) (hl : L.length ≤ 1000) :
    Calls Tryz.prog 42 #[.pointer (some ⟨g, 0, none⟩), .string r] w (TakeAns 47 g s L x w (oneD r)) := by
  have H := Lib.hid h
  have HL := Lib.hid hl
  have HR := Lib.hid hr
  clear h hl hr
  by_cases h0 : r.size = 0
  · obtain rfl : r = ⟨#[]⟩ := by apply ba_ext; rw [List.eq_nil_of_length_eq_zero ((ba_list r).trans h0)]
    rw [one_empty]
    go_enter Tryz.func42, Tryz.ntmps42
    go_wp2_with fail
    go_ret
    exact ⟨Below.refl _ _, rfl, H.out⟩
  · have g0' : 0 < r.size := by omega
    have g0 : (0 : Int) < (r.size : Int) := by omega
    have q3 : (1 : Int) ≤ (r.size : Int) := by omega
    have e0 := byte0 r g0'
    have te := ba_full g0'
    have HEX := Lib.hid (show (r.extract 1 r.size).size ≤ 1000000 by rw [ByteArray.size_extract]; have := HR.out; omega)
    by_cases h83 : r.data.toList.getD 0 0 = 83
    · have HO := Lib.hid (one_83 g0' h83)
      rw [h83] at e0
      replace e0 : (r[0].toNat : Int) = 83 := e0
      clear h83 h0
      go_enter Tryz.func42, Tryz.ntmps42
      go_wp2_with fail
      refine (takestate_any (r.extract 1 r.size) _ rfl H.out).mono ?_
      intro e w1 hans
      rw [← HO.out] at hans
      cases hx : oneD r with
      | none =>
        rw [hx] at hans
        obtain ⟨hb1, rfl, h1⟩ := hans
        go_wp2_with fail
        go_ret
        refine ⟨hb1, ?_⟩
        rw [hx]
        exact ⟨rfl, h1⟩
      | some z =>
        rcases z with s' | d
        · rw [hx] at hans
          obtain ⟨hb1, rfl, h1⟩ := hans
          go_wp2_with fail
          go_ret
          refine ⟨hb1, ?_⟩
          rw [hx]
          exact ⟨rfl, h1⟩
        · rw [hx] at hans
          obtain ⟨hb1, rfl, h1⟩ := hans
          go_wp2_with fail
          go_ret
          refine ⟨hb1, ?_⟩
          rw [hx]
          exact ⟨rfl, h1⟩
    · by_cases h66 : r.data.toList.getD 0 0 = 66
      · have HO := Lib.hid (one_66 g0' h66)
        rw [h66] at e0
        replace e0 : (r[0].toNat : Int) = 66 := e0
        clear h66 h83 h0
        go_enter Tryz.func42, Tryz.ntmps42
        go_wp2_with fail
        refine (takeblock_any (r.extract 1 r.size) HEX.out _ rfl H.out HL.out).mono ?_
        intro e w1 hans
        rw [← HO.out] at hans
        cases hx : oneD r with
        | none =>
          rw [hx] at hans
          obtain ⟨hb1, rfl, h1⟩ := hans
          go_wp2_with fail
          go_ret
          refine ⟨hb1, ?_⟩
          rw [hx]
          exact ⟨rfl, h1⟩
        | some z =>
          rcases z with s' | d
          · rw [hx] at hans
            obtain ⟨hb1, rfl, h1⟩ := hans
            go_wp2_with fail
            go_ret
            refine ⟨hb1, ?_⟩
            rw [hx]
            exact ⟨rfl, h1⟩
          · rw [hx] at hans
            obtain ⟨hb1, rfl, h1⟩ := hans
            go_wp2_with fail
            go_ret
            refine ⟨hb1, ?_⟩
            rw [hx]
            exact ⟨rfl, h1⟩
      · rw [one_else h83 h66]
        obtain ⟨c, hc⟩ : ∃ c : Nat, (r.data.toList.getD 0 0).toNat = c := ⟨_, rfl⟩
        have hn83 : c ≠ 83 := fun e => h83 (UInt8.toNat_inj.1 (hc.trans (e.trans rfl)))
        have hn66 : c ≠ 66 := fun e => h66 (UInt8.toNat_inj.1 (hc.trans (e.trans rfl)))
        rw [hc] at e0
        have t1 : ((c : Int) == 83) = false := by rw [beq_eq_false_iff_ne]; omega
        have t2 : ((c : Int) == 66) = false := by rw [beq_eq_false_iff_ne]; omega
        clear h66 h83 h0 hc hn83 hn66
        go_enter Tryz.func42, Tryz.ntmps42
        go_wp2_with fail
        go_ret
        exact ⟨Below.refl _ _, rfl, H.out⟩
end
end Go.Proofs.YtnahebfhhcebpaaGreat
end
section
open Go Go.RowKit
namespace TT
open SS RR FF WW BB
/-- what Recall has remembered so far: the result's box in block n, the memory behind it -/
structure RcU (tB : TypeId) (n : Nat) (w0 : World) (s : StT) (L : List Bv) (x : Value) (wr : World) : Prop where
  below : Below n w0 wr
  rb : Blk wr n 2 (rowL [.int .i64 0, .int .i64 0])
  mm : Mm tB (n + 1) s L x wr
section
variable {tB : TypeId} {n : Nat} {w0 wr w' : World} {s s' : StT} {L L' : List Bv} {x x' : Value}
theorem RcU.next (h : RcU tB n w0 s L x wr) (hb : Below (n + 1) wr w') (hm : Mm tB (n + 1) s' L' x' w') : RcU tB n w0 s' L' x' w' :=
  ⟨h.below.trans (hb.mono (Nat.le_succ n)), h.rb.of_heap (hb.block n (Nat.lt_succ_self n)), hm⟩
theorem RcU.fin (h : RcU tB n w0 s L x wr) (hu : Upd n wr w') : Dep (fun b => n ≤ b) w' (fun w'' => BvAt w'' x L) ∧ Below n w0 w' := by
  refine ⟨?_, h.below.trans (hu.below (Nat.le_refl _))⟩
  have hr := row_keep h.mm.row (w' := w') fun c hc => hu.block c (by have := (h.mm.row.lt c hc).1; omega)
  exact dep_bv hr (fun y hy => ((h.mm.inn y hy).on (Keeps.upd hu fun b hb => by have := hb.1; omega)).more fun b hb _ => by have := hb.1; omega) fun b hb => by have := (hr.lt b hb).1; omega
end
/-- the blocks' records, as strings -/
def recsV (L : List Bv) : List Value := L.map fun y => Value.string (rcB y.1)
theorem recsV_len (L : List Bv) : (recsV L).length = L.length := by unfold recsV; rw [List.length_map]
theorem recsV_of (L : List Bv) : recsV L = ((L.map Prod.fst).map rcB).map Value.string := by unfold recsV; rw [List.map_map, List.map_map]; rfl
theorem recsV_step {L : List Bv} {i : Nat} (h : i < L.length) : recsV (L.take (i + 1)) = recsV (L.take i) ++ [.string (rcB (L.getD i vb0).1)] := by
  unfold recsV
  rw [List.take_add_one, List.getElem?_eq_getElem h, List.map_append, List.getD_eq_getElem?_getD, List.getElem?_eq_getElem h]; rfl
end TT
namespace Go.Proofs.YtnahebfhhcebpaaGreat
open TT SS RR FF JJ CC WW BB
set_option maxRecDepth 100000 in
set_option maxHeartbeats 8000000 in
theorem recall_any (l : List ByteArray) (v : Value) (w : World) (hv : StrsAt w v l) (hs : ∀ r ∈ l, r.size ≤ 1000000) (hl : l.length ≤ 1000) :
    Calls Tryz.prog 26 #[v] w fun e w' => ∃ u L, e = .returned (.tuple #[.agg #[.int .i64 (recallL l ((0, 0), [])).1.1, .int .i64 (recallL l ((0, 0), [])).1.2], u]) ∧ L.map Prod.fst = (recallL l ((0, 0), [])).2 ∧ Dep (fun b => w.heap.size ≤ b) w' (fun w'' => BvAt w'' u L) ∧ Below w.heap.size w w' := by
  obtain ⟨M, hM⟩ : ∃ M, recallL l ((0, 0), []) = M := ⟨_, rfl⟩
  rw [hM]
  have HM := Lib.hid hM
  have HV := Lib.hid hv
  have HSZ := Lib.hid hs
  have HL := Lib.hid hl
  obtain ⟨a0, cap, rfl, hx⟩ := hv
  have HX := Lib.hid hx
  clear hM hs hl hx
  obtain ⟨n, hn⟩ : ∃ n, w.heap.size = n := ⟨_, rfl⟩
  have K0 := Lib.hid (show RcU 47 n w (0, 0) [] (.slice none 0 0) ((w.alloc (.cells #[.int .i64 0, .int .i64 0] 33)).alloc (.cells #[.int .i64 0, .int .i64 0, .slice none 0 0] 79)) from
    ⟨((Below.refl _ _).alloc (by omega) _).alloc (by simp; omega) _, by rw [← hn]; exact (Blk.new' rfl (row2_ _ _)).alloc _, mm_start _ (n + 1) (by simp; omega) _ _⟩)
  obtain ⟨w0, hw0⟩ : ∃ w0, (w.alloc (.cells #[.int .i64 0, .int .i64 0] 33)).alloc (.cells #[.int .i64 0, .int .i64 0, .slice none 0 0] 79) = w0 := ⟨_, rfl⟩
  have HW0 := Lib.hid hw0
  have HN := Lib.hid hn
  have HB0 := Lib.hid (show Below w.heap.size w w0 by rw [← hw0]; exact ((Below.refl _ _).alloc (Nat.le_refl _) _).alloc (by simp) _)
  rw [hw0] at K0
  clear hw0 hn
  go_enter Tryz.func26, Tryz.ntmps26
  go_upto_region 2 with fail
  rw [HW0.out, HN.out]
  go_wp2_with fail
  go_loopw [9] (fun y wr => ∃ (i : Nat) (s : StT) (L : List Bv) (x : Value), i ≤ l.length ∧ y = .int .i64 (i : Int) ∧ GoodL (l.take i) ∧ recallL (l.take i) ((0, 0), []) = (s, L.map Prod.fst) ∧ L.length ≤ i ∧ RcU 47 n w s L x wr) (fun y _ => l.length - (intOf y).toNat)
  case atStart => exact ⟨0, (0, 0), [], _, Nat.zero_le _, rfl, fun r hr => by simp at hr, rfl, Nat.le_refl _, K0.out⟩
  case round =>
    obtain ⟨i, s, L, x, hi, rfl, hg, hrec, hLi, hst⟩ := hrel
    have HST := Lib.hid hst
    have HG := Lib.hid hg
    have HREC := Lib.hid hrec
    have HLI := Lib.hid hLi
    have i0' : (0 : Int) ≤ (i : Int) := by omega
    have ib : (i : Int) ≤ 1000 := by have := HL.out; omega
    clear hst hg hrec hLi
    by_cases h1 : i < l.length
    · have h1' : (i : Int) < (l.length : Int) := by omega
      have HLT := Lib.hid h1
      obtain ⟨tb, toff, rfl, hbw, hcell⟩ : ∃ b off, a0 = some ⟨b, off, none⟩ ∧ b < w.heap.size ∧ _ := by
        rcases HX.out with h | h
        · subst h; simp at h1
        · exact h
      have k1 := (HST.out.below.cell (p := ⟨tb, toff + i, none⟩) (HN.out ▸ hbw)).trans (hcell i h1)
      obtain ⟨r, hr⟩ : ∃ r, l.getD i ⟨#[]⟩ = r := ⟨_, rfl⟩
      have HR := Lib.hid hr
      rw [hr] at k1
      have HRS := Lib.hid (show r.size ≤ 1000000 from HSZ.out r (by rw [← hr, List.getD_eq_getElem?_getD, List.getElem?_eq_getElem h1]; exact List.getElem_mem h1))
      clear h1 hi hbw hcell hr
      go_wp2_with fail
      refine (take_any r HRS.out HST.out.mm (by have := HLI.out; have := HLT.out; have := HL.out; omega)).mono ?_
      intro e w2 hans
      cases hx : oneD r with
      | none =>
        rw [hx] at hans
        obtain ⟨hb2, rfl, hm2⟩ := hans
        have K2 := Lib.hid (HST.out.next hb2 hm2)
        have HH := Lib.hid (rec_halt HLT.out HG.out HREC.out (by rw [HR.out]; exact hx))
        clear hb2 hx k1 hm2
        have HMM := Lib.hid (show M = (s, L.map Prod.fst) from HM.out.symm.trans HH.out)
        go_wp2_with fail
        obtain ⟨xa, xc, hxs⟩ := K2.out.mm.sl
        subst hxs
        have HSC := Lib.hid (fun (wx : World) (hk : wx.heap[n + 1]? = w2.heap[n + 1]?) => cells3 (K2.out.mm.blk.of_heap hk))
        refine plan_abs (fun wx => wx.heap[n + 1]? = w2.heap[n + 1]?) [(true, 0), (true, 1), (true, 2), (true, 3), (false, 4), (false, 5)] (by kernel_rfl) (by kernel_rfl) (fun _ _ d _ _ h => by cases d <;> exact h) fun w5 hs5 => ⟨by rw [hs5.heap], ?_⟩
        have K5 := Lib.hid (show RcU 47 n w s L (.slice xa L.length xc) w5 from K2.out.next (hs5.below _) (K2.out.mm.on (hs5.below _)))
        have H5 := Lib.hid (show w5.heap[n + 1]? = w2.heap[n + 1]? by rw [hs5.heap])
        clear hs5
        iterate 4 (refine pl_run _ ?_ rfl rfl ?_ ?_; rotate_left; (focus (intro w' hS; obtain ⟨c0, c1, c2⟩ := HSC.out w' hS; go_simp; exact rfl)); simp only [Act.put, List.setIfInBounds_toArray, List.set_cons_zero, List.set_cons_succ, List.getElem_toArray, List.getElem_cons_zero, List.getElem_cons_succ])
        obtain ⟨xi, ui⟩ := rset2 K5.out.rb (.int .i64 s.1) (.int .i64 s.2)
        have XI := Lib.hid xi
        have UI := Lib.hid ui
        obtain ⟨p0, p1⟩ := cells2 xi
        obtain ⟨d0, d1⟩ := cells2 K5.out.rb
        have f0 := K5.out.rb.frz 0
        have f1 := K5.out.rb.frz 1
        have S6 := Lib.hid ((ui.block (n + 1) (by omega)).trans H5.out)
        clear xi ui
        refine pl_store _ rfl rfl (by go_simp) S6.out ?_
        simp only [Act.put, List.getElem_toArray, List.getElem_cons_zero, List.getElem_cons_succ]
        refine pl_value _ (.slice xa L.length xc) rfl rfl (by go_simp) S6.out ?_
        simp only [Act.put, List.setIfInBounds_toArray, List.set_cons_zero, List.set_cons_succ, List.getElem_toArray, List.getElem_cons_zero, List.getElem_cons_succ]
        refine pl_end ?_
        go_wp2_with fail
        obtain ⟨k1, k2⟩ := K5.out.fin UI.out
        refine bodyPost_ret (v := .tuple #[.agg #[.int .i64 s.1, .int .i64 s.2], .slice xa L.length xc]) (by simp [results, Tryz.results26, go_sem, p0, p1]) rfl ⟨.slice xa L.length xc, L, by rw [HMM.out], by rw [HMM.out], ?_, ?_⟩
        · rw [HN.out]; exact k1
        · rw [HN.out]; exact k2
      | some z =>
        rcases z with s' | d
        · rw [hx] at hans
          obtain ⟨hb2, rfl, hm2⟩ := hans
          have K2 := Lib.hid (HST.out.next hb2 hm2)
          have HH := Lib.hid (rec_step HLT.out HG.out HREC.out (by rw [HR.out]; exact hx))
          clear hb2 hx k1 hm2
          go_wp2_with fail
          go_roundw
          case rel => exact ⟨i + 1, upS s s', L, x, by have := HLT.out; omega, by go_num, HH.out.1, HH.out.2, by have := HLI.out; omega, K2.out⟩
          case measure => have := HLT.out; simp [intOf]; omega
        · rw [hx] at hans
          obtain ⟨hb2, rfl, x', sv, rv, hm2⟩ := hans
          have K2 := Lib.hid (HST.out.next hb2 hm2)
          have HH := Lib.hid (rec_step HLT.out HG.out HREC.out (by rw [HR.out]; exact hx))
          clear hb2 hx k1 hm2
          go_wp2_with fail
          go_roundw
          case rel => exact ⟨i + 1, s, L ++ [(d, sv, rv)], x', by have := HLT.out; omega, by go_num, HH.out.1, by rw [HH.out.2, List.map_append]; rfl, by rw [List.length_append]; have := HLI.out; show L.length + 1 ≤ i + 1; omega, K2.out⟩
          case measure => have := HLT.out; simp [intOf]; omega
    · obtain rfl : i = l.length := by omega
      have h1' : ¬ ((l.length : Nat) : Int) < ((l.length : Nat) : Int) := by omega
      have HMM := Lib.hid (show M = (s, L.map Prod.fst) by rw [← HM.out, ← HREC.out, List.take_length])
      clear h1 hi
      go_wp2_with fail
      obtain ⟨xa, xc, hxs⟩ := HST.out.mm.sl
      subst hxs
      have HSC := Lib.hid (fun (wx : World) (hk : wx.heap[n + 1]? = wr.heap[n + 1]?) => cells3 (HST.out.mm.blk.of_heap hk))
      refine plan_abs (fun wx => wx.heap[n + 1]? = wr.heap[n + 1]?) [(true, 0), (true, 1), (true, 2), (true, 3), (false, 4), (false, 5)] (by kernel_rfl) (by kernel_rfl) (fun _ _ d _ _ h => by cases d <;> exact h) fun w5 hs5 => ⟨by rw [hs5.heap], ?_⟩
      have K5 := Lib.hid (show RcU 47 n w s L (.slice xa L.length xc) w5 from HST.out.next (hs5.below _) (HST.out.mm.on (hs5.below _)))
      have H5 := Lib.hid (show w5.heap[n + 1]? = wr.heap[n + 1]? by rw [hs5.heap])
      clear hs5
      iterate 4 (refine pl_run _ ?_ rfl rfl ?_ ?_; rotate_left; (focus (intro w' hS; obtain ⟨c0, c1, c2⟩ := HSC.out w' hS; go_simp; exact rfl)); simp only [Act.put, List.setIfInBounds_toArray, List.set_cons_zero, List.set_cons_succ, List.getElem_toArray, List.getElem_cons_zero, List.getElem_cons_succ])
      obtain ⟨xi, ui⟩ := rset2 K5.out.rb (.int .i64 s.1) (.int .i64 s.2)
      have XI := Lib.hid xi
      have UI := Lib.hid ui
      obtain ⟨p0, p1⟩ := cells2 xi
      obtain ⟨d0, d1⟩ := cells2 K5.out.rb
      have f0 := K5.out.rb.frz 0
      have f1 := K5.out.rb.frz 1
      have S6 := Lib.hid ((ui.block (n + 1) (by omega)).trans H5.out)
      clear xi ui
      refine pl_store _ rfl rfl (by go_simp) S6.out ?_
      simp only [Act.put, List.getElem_toArray, List.getElem_cons_zero, List.getElem_cons_succ]
      refine pl_value _ (.slice xa L.length xc) rfl rfl (by go_simp) S6.out ?_
      simp only [Act.put, List.setIfInBounds_toArray, List.set_cons_zero, List.set_cons_succ, List.getElem_toArray, List.getElem_cons_zero, List.getElem_cons_succ]
      refine pl_end ?_
      go_wp2_with fail
      obtain ⟨k1, k2⟩ := K5.out.fin UI.out
      refine bodyPost_ret (v := .tuple #[.agg #[.int .i64 s.1, .int .i64 s.2], .slice xa L.length xc]) (by simp [results, Tryz.results26, go_sem, p0, p1]) rfl ⟨.slice xa L.length xc, L, by rw [HMM.out], by rw [HMM.out], ?_, ?_⟩
      · rw [HN.out]; exact k1
      · rw [HN.out]; exact k2
theorem info_str10 : (Tryz.prog.info? 9).map (fun i => (i.zero, i.size, i.bytes)) = some (some (.string ⟨#[]⟩), 1, 16) := by kernel_rfl
set_option maxRecDepth 100000 in
set_option maxHeartbeats 8000000 in
/-- the blocks' records, in a new row -/
theorem blockrecs_any (L : List Bv) (v : Value) (w : World) (hv : BvAt w v L) (hs : ∀ y ∈ L, SmallD y.1) (hl : L.length ≤ 1000) :
    Calls Tryz.prog 27 #[v] w fun e w' => ∃ u, e = .returned u ∧ w'.ownsRow w.heap.size 9 1 u L.length (recsV L) ∧ Below w.heap.size w w' := by
  have HV := Lib.hid hv
  have HS := Lib.hid hs
  have HL := Lib.hid hl
  obtain ⟨a0, cap, rfl⟩ := bv_shape hv
  obtain ⟨i0, hi0, hz0, hz1, hz2⟩ := info_parts info_str10
  have HI := Lib.hid hi0
  have HZ := Lib.hid (And.intro hz0 (And.intro hz1 hz2))
  clear hv hs hl hi0 hz0 hz1 hz2
  go_enter Tryz.func27, Tryz.ntmps27
  go_wp2_with fail
  go_loopw [3, 8] (fun x y wr => ∃ i : Nat, i ≤ L.length ∧ y = .int .i64 (i : Int) ∧ wr.ownsRow w.heap.size 9 1 x i (recsV (L.take i)) ∧ Below w.heap.size w wr) (fun _ y _ => L.length - (intOf y).toNat)
  case atStart => exact ⟨0, Nat.zero_le _, rfl, World.ownsRow_nil _ _ _ _, Below.refl _ _⟩
  case round =>
    obtain ⟨i, hi, rfl, hrow, hbr⟩ := hrel
    have HROW := Lib.hid hrow
    have HBR := Lib.hid hbr
    have i0' : (0 : Int) ≤ (i : Int) := by omega
    have ib : (i : Int) ≤ 1000 := by have := HL.out; omega
    obtain ⟨xa, xc, rfl⟩ := own_sl6 hrow
    clear hrow
    by_cases hlt : i < L.length
    · have hlt' : (i : Int) < (L.length : Int) := by omega
      have HLT := Lib.hid hlt
      obtain ⟨qb, qoff, rfl, _, _, hq⟩ := bv_at HV.out i hlt
      obtain ⟨c0, c1, c2, c3, c4, c5, hin⟩ := hq wr hbr i hlt
      obtain ⟨y, hy⟩ : ∃ y, L.getD i vb0 = y := ⟨_, rfl⟩
      have HY := Lib.hid hy
      have HSM := Lib.hid (show SmallD y.1 by rw [← hy, getD_at hlt]; exact HS.out _ (List.getElem_mem hlt))
      rw [hy] at c0 c1 c2 c3 c4 c5 hin
      have HIN := Lib.hid hin
      obtain ⟨bd, s5, s6⟩ := y
      obtain ⟨e5, n5, h5⟩ := sl_of_sigs hin.1
      obtain ⟨e6, n6, h6⟩ := sl_of_reqs hin.2
      replace h5 : s5 = .slice e5 (sigsI bd).length n5 := h5
      replace h6 : s6 = .slice e6 bd.2.length n6 := h6
      subst h5 h6
      have B1 := Lib.hid ((Below.refl wr.heap.size wr).alloc (Nat.le_refl _) (.cells #[.int .i64 (viewI bd), .int .i64 (propI bd), .int .i64 (jvI bd), .string (parI bd), .slice e5 (sigsI bd).length n5, .slice e6 bd.2.length n6] 47))
      have HC := Lib.hid (fun wx (hb : Below wr.heap.size wr wx) => blockrec_any (bd, .slice e5 (sigsI bd).length n5, .slice e6 bd.2.length n6) wx (HIN.out.later hb) HSM.out)
      unfold bvV at HC
      simp only at c0 c1 c2 c3 c4 c5 HC
      clear hi hlt hy hbr hq hin
      go_wp2_with fail
      refine (HC.out _ B1.out).mono ?_
      rintro e w2 ⟨rfl, hb2⟩
      have B2 := Lib.hid (B1.out.trans (hb2.mono B1.out.size))
      have BW2 := Lib.hid (HBR.out.trans (B2.out.mono HBR.out.size))
      obtain ⟨r, hr⟩ : ∃ r, rcB bd = r := ⟨_, rfl⟩
      rw [hr]
      have HR := Lib.hid hr
      have R2 := Lib.hid (row_keep HROW.out fun c hc => B2.out.block c (HROW.out.lt c hc).2)
      clear hb2 HC c0 c1 c2 c3 c4 c5 hr
      go_wp2_with (at_builtin; refine wpList_append_own _ rfl _ _ 58 rfl w.heap.size 9 i0 (.string ⟨#[]⟩) 1 16 (by kernel_rfl) HI.out HZ.out.1 HZ.out.2.1 HZ.out.2.2 rfl (by decide) _ _ _ rfl (R2.out.alloc _) ⟨w2.heap.size, 0, none⟩ 1 1 [.string r] rfl ?qc1 ?qc2 ?qc3 ?qc4 ?qc5 ?qc6 ?_)
      case qc1 => rfl
      case qc2 => exact cell_one_new _ _ _
      case qc3 => simp [Value.oneCell']
      case qc4 => have := HLT.out; have := HL.out; unfold maxLen; omega
      case qc5 => have := HLT.out; have := HL.out; omega
      case qc6 => have := BW2.out.size; simp; omega
      intro v' w3 hown hgrow hnil
      obtain ⟨va, vc, rfl⟩ := own_sl6 hown
      have HOW := Lib.hid hown
      have BW3 := Lib.hid ((BW2.out.alloc BW2.out.size _).grown hgrow (by have := BW2.out.size; simp; omega) (fun k hk => (R2.out.lt k hk).1))
      clear hown hgrow hnil
      go_wp2_with fail
      go_roundw
      case rel => exact ⟨i + 1, by have := HLT.out; omega, by go_num, by rw [recsV_step HLT.out, HY.out]; show World.ownsRow _ _ _ _ _ _ (_ ++ [.string (rcB bd)]); rw [HR.out]; exact HOW.out, BW3.out⟩
      case measure => have := HLT.out; simp [intOf]; omega
    · obtain rfl : i = L.length := by omega
      have hlt' : ¬ (L.length : Int) < (L.length : Int) := by omega
      have HRW := Lib.hid (show wr.ownsRow w.heap.size 9 1 (.slice xa L.length xc) L.length (recsV L) by have := HROW.out; rwa [List.take_length] at this)
      clear hi hlt
      go_wp2_with fail
      go_ret
      exact ⟨_, rfl, HRW.out, HBR.out⟩
end Go.Proofs.YtnahebfhhcebpaaGreat
end
section
open Go Go.RowKit
namespace TT
open SS RR FF WW BB
/-- what is known of a memory's cells -/
structure MemIs (tS : TypeId) (O : Nat → Prop) (w : World) (m g : Nat) (st : MemT) (v : Value) : Prop where
  blk : Blk w m 4 (rowL [.pointer (some ⟨g, 0, none⟩), .int .i64 st.1.1, .int .i64 st.1.2, v])
  row : w.ownsRow 0 tS 1 v st.2.length ((st.2.map rcB).map Value.string)
  own : ∀ b, O b ↔ b = m ∨ v.ownBlock = some b
  ne : v.ownBlock ≠ some m
section
variable {tS : TypeId} {O : Nat → Prop} {w w' : World} {m g : Nat} {st : MemT} {v : Value}
theorem MemIs.keep (h : MemIs tS O w m g st v) (hk : Keeps O w w') : MemIs tS O w' m g st v :=
  ⟨h.blk.of_heap (hk.block m ((h.own m).2 (.inl rfl)) h.blk.lt), row_keep h.row fun c hc => hk.block c ((h.own c).2 (.inr hc)) (h.row.lt c hc).2, h.own, h.ne⟩
theorem MemIs.on (h : MemIs tS O w m g st v) (hb : Below w.heap.size w w') : MemIs tS O w' m g st v := h.keep (Keeps.of hb)
theorem MemIs.cells (h : MemIs tS O w m g st v) : w.cell? ⟨m, 0, none⟩ = some (.pointer (some ⟨g, 0, none⟩)) ∧ w.cell? ⟨m, 1, none⟩ = some (.int .i64 st.1.1) ∧ w.cell? ⟨m, 2, none⟩ = some (.int .i64 st.1.2) ∧ w.cell? ⟨m, 3, none⟩ = some v :=
  cells4 h.blk
theorem MemIs.lt (h : MemIs tS O w m g st v) : ∀ b, O b → b < w.heap.size := by
  intro b hb
  rcases (h.own b).1 hb with rfl | e
  · exact h.blk.lt
  · exact (h.row.lt b e).2
theorem MemIs.sl (h : MemIs tS O w m g st v) : ∃ a c, v = .slice a st.2.length c := own_sl6 h.row
theorem strs_row {e : TypeId} {w : World} {base n : Nat} {v : Value} {l : List ByteArray} (h : w.ownsRow base e 1 v n (l.map Value.string)) : StrsAt w v l := by
  have hn : n = l.length := by have := h.1; rw [List.length_map] at this; omega
  subst hn
  exact (strsin_own h).at_
end
def At10 (tS : TypeId) (O : Nat → Prop) (w : World) (m g : Nat) (st : MemT) : Prop := ∃ v, MemIs tS O w m g st v
theorem right_smallD {b : BlockD} (h : blockOk b) : SmallD b := by
  have h := right_smallB (v := b.1.1.1) (p := b.1.1.2) (cv := b.1.2.1.1) (k := b.1.2.1.2) (l := b.1.2.2) (m := b.2) h
  exact ⟨by have := h.2.2.1; show b.1.2.1.2.size ≤ 1000000; omega, h.1, h.2.1⟩
theorem recs_small {st : MemT} (h : OkT st) : (∀ r ∈ st.2.map rcB, r.size ≤ 1000000) ∧ (st.2.map rcB).length ≤ 1000 := by
  refine ⟨fun r hr => ?_, by rw [List.length_map]; exact h.2.2⟩
  obtain ⟨b, hb, rfl⟩ := List.mem_map.1 hr
  have := recs_fit (st := (0, 0)) (x := (0, 0)) (l := st.2) h.2.1 (rcB b) (by unfold recsOf; exact List.mem_append_left _ (List.mem_map.2 ⟨b, hb, rfl⟩))
  unfold fitR at this; omega
theorem ext_join (a : ByteArray) (i j : Nat) (h : i ≤ j) : a.extract 0 i ++ a.extract i j = a.extract 0 j := by
  apply ba_ext
  rw [ByteArray.data_append, Array.toList_append]
  simp only [ByteArray.data_extract, Array.toList_extract, List.extract_eq_take_drop, List.drop_zero, Nat.sub_zero]
  rw [← List.take_add]
  congr 1; omega
theorem cut_all (s : Lg) : (cutL s).safe ++ (cutL s).wait = encL (splitS (s.safe ++ s.wait)).1 := by
  rw [← (split_bytes _ (s.safe ++ s.wait) (Nat.lt_succ_self _)).1]
  exact ext_join _ _ _ (Nat.min_le_left _ _)
theorem cut_size10 (s : Lg) : sizeL (cutL s) ≤ sizeL s := by
  have h1 := congrArg ByteArray.size (cut_all s)
  have h2 := congrArg ByteArray.size (split_bytes _ (s.safe ++ s.wait) (Nat.lt_succ_self _)).1
  rw [ByteArray.size_append] at h1
  rw [ByteArray.size_extract, ByteArray.size_append] at h2
  show (cutL s).safe.size + (cutL s).wait.size ≤ s.safe.size + s.wait.size
  omega
theorem cut_recs10 {s : Lg} (h : s.gone = false) : recsL (cutL s) = recsL s := by
  have h' : (cutL s).gone = false := h
  unfold recsL
  rw [if_neg (by rw [h']; decide), if_neg (by rw [h]; decide), cut_all, split_encL _ (split_bytes _ (s.safe ++ s.wait) (Nat.lt_succ_self _)).2]
theorem recs_few {s : Lg} : ∀ r ∈ recsL s, r.size ≤ 1000000 := by
  intro r hr
  unfold recsL at hr
  split at hr
  · cases hr
  · have := (split_bytes _ (s.safe ++ s.wait) (Nat.lt_succ_self _)).2 r hr
    unfold fitR at this; omega
theorem recs_back {st : MemT} (h : OkT st) : recallL (st.2.map rcB) ((0, 0), []) = ((0, 0), st.2) := by
  rw [recall_blocks st.2 _ h.2.1]; rfl
end TT
namespace Go.Proofs.YtnahebfhhcebpaaGreat
open TT SS RR FF JJ CC WW BB
section
variable (O : Nat → Prop) (w : World) (m g : Nat) (st : MemT)
set_option maxRecDepth 100000 in
set_option maxHeartbeats 4000000 in
theorem state10 (h : At10 9 O w m g st) : Calls Tryz.prog 13 #[.pointer (some ⟨m, 0, none⟩)] w fun e w' => e = .returned (.agg #[.int .i64 st.1.1, .int .i64 st.1.2]) ∧ Below w.heap.size w w' := by
  obtain ⟨v, h⟩ := h
  have X1 := Lib.hid ((Below.refl w.heap.size w).alloc (Nat.le_refl _) (.cells #[.int .i64 0, .int .i64 0] 33))
  have Q1 := Lib.hid (show Blk (w.alloc (.cells #[.int .i64 0, .int .i64 0] 33)) w.heap.size 2 (rowL [.int .i64 0, .int .i64 0]) from Blk.new' rfl (row2_ _ _))
  have H1 := Lib.hid (h.on X1.out)
  obtain ⟨w1, hw1⟩ : ∃ w1, w.alloc (.cells #[.int .i64 0, .int .i64 0] 33) = w1 := ⟨_, rfl⟩
  have HW1 := Lib.hid hw1
  rw [hw1] at X1 Q1 H1
  clear hw1 h
  go_enter Tryz.func13, Tryz.ntmps13
  go_upto_region 1 with fail
  rw [HW1.out]
  obtain ⟨c0, c1, c2, c3⟩ := H1.out.cells
  have f0 := Q1.out.frz 0
  have f1 := Q1.out.frz 1
  obtain ⟨d0, d1⟩ := cells2 Q1.out
  go_wp2_with fail
  obtain ⟨xi, ui⟩ := rset2 Q1.out (.int .i64 st.1.1) (.int .i64 st.1.2)
  obtain ⟨p0, p1⟩ := cells2 xi
  refine bodyPost_ret (v := .agg #[.int .i64 st.1.1, .int .i64 st.1.2]) (by simp [results, Tryz.results13, go_sem, p0, p1]) rfl ⟨rfl, ?_⟩
  exact X1.out.trans (ui.below (Nat.le_refl _))
set_option maxRecDepth 100000 in
set_option maxHeartbeats 4000000 in
theorem blocks10 (h : At10 9 O w m g st) (hok : OkT st) : Calls Tryz.prog 15 #[.pointer (some ⟨m, 0, none⟩)] w fun e w' => ∃ u L, e = .returned u ∧ L.map Prod.fst = st.2 ∧ Dep (fun b => w.heap.size ≤ b) w' (fun w'' => BvAt w'' u L) ∧ Below w.heap.size w w' := by
  obtain ⟨v, h⟩ := h
  have HS := Lib.hid (strs_row h.row)
  have HR := Lib.hid (recs_small hok)
  have HB := Lib.hid (recs_back hok)
  obtain ⟨c0, c1, c2, c3⟩ := h.cells
  obtain ⟨va, vc, hv⟩ := h.sl
  have HVV := Lib.hid hv
  subst hv
  clear h hok
  go_enter Tryz.func15, Tryz.ntmps15
  go_wp2_with fail
  refine (recall_any _ _ w HS.out HR.out.1 HR.out.2).mono ?_
  rintro e w1 ⟨u, L, rfl, hL, hD, hb1⟩
  rw [HB.out]
  rw [HB.out] at hL
  have HL := Lib.hid hL
  have HD := Lib.hid hD
  have HB1 := Lib.hid hb1
  obtain ⟨ua, uc, rfl⟩ := bv_shape hD.now
  clear hL hD hb1
  go_wp2_with fail
  go_ret
  exact ⟨_, L, rfl, HL.out, HD.out.on (Keeps.of ((Below.refl _ _).alloc (Nat.le_refl _) _)), HB1.out.alloc HB1.out.size _⟩
set_option maxRecDepth 100000 in
set_option maxHeartbeats 8000000 in
theorem open10 (s : Lg) (h : At9 O w g s) (hs : sizeL s ≤ 1000000) (hn : (recsL s).length ≤ 1000) (hg : s.gone = false) :
    Calls Tryz.prog 10 #[.pointer (some ⟨g, 0, none⟩)] w fun e w' => ∃ m O' O1, e = .returned (.tuple #[.pointer (some ⟨m, 0, none⟩), .int .i64 0]) ∧ At9 O' w' g (cutL s) ∧ At10 9 O1 w' m g (recallL (recsL s) ((0, 0), [])) ∧
      Keeps (fun b => ¬ O b) w w' ∧ (∀ b, O' b → O b ∨ w.heap.size ≤ b) ∧ ∀ b, O1 b → w.heap.size ≤ b ∧ ¬ O' b := by
  have HCA := Lib.hid (show cutA s = (cutL s, 0) by unfold cutA; rw [if_neg (by rw [hg]; decide)])
  have HRE := Lib.hid (cut_recs10 hg)
  have HCG := Lib.hid (show (if (cutL s).gone = true then (8 : Int) else 0) = 0 from if_neg (by show ¬ s.gone = true; rw [hg]; decide))
  have HN := Lib.hid hn
  have HSZ := Lib.hid (Nat.le_trans (cut_size10 s) hs)
  have HCUT := Lib.hid (cut9 O w g s h hs)
  obtain ⟨M, hM⟩ : ∃ M, recallL (recsL s) ((0, 0), []) = M := ⟨_, rfl⟩
  rw [hM]
  have HM := Lib.hid hM
  have HMS := Lib.hid (show ∀ b ∈ M.2, blockOk b by rw [← hM]; exact (recall_ok (recsL s) ((0, 0), []) ok_none.1 (fun _ h => by cases h)).2.1)
  have HML := Lib.hid (show M.2.length ≤ 1000 by
    have := (recall_ok (recsL s) ((0, 0), []) ok_none.1 (fun _ h => by cases h)).2.2
    rw [← hM]
    have e : ([] : List BlockD).length = 0 := rfl
    have this : _ ≤ ([] : List BlockD).length + _ := this
    omega)
  clear h hs hn hg hM
  go_enter Tryz.func10, Tryz.ntmps10
  go_wp2_with fail
  refine HCUT.out.mono ?_
  rintro e w1 ⟨rfl, O', h1, hk1, ho1⟩
  rw [HCA.out] at h1 ⊢
  have H1 := Lib.hid (show At9 O' w1 g (cutL s) from h1)
  have HK1 := Lib.hid hk1
  have HO1 := Lib.hid ho1
  clear h1 hk1 ho1 HCUT
  go_wp2_with fail
  refine (records9 O' w1 g (cutL s) H1.out HSZ.out).mono ?_
  rintro e w2 ⟨v, rfl, hv, hb2⟩
  rw [HCG.out]
  rw [HRE.out] at hv
  have HV := Lib.hid hv.at_
  have B2 := Lib.hid hb2
  obtain ⟨va, vc, rfl, _⟩ := hv
  clear hb2
  go_wp2_with fail
  refine (recall_any (recsL s) _ w2 HV.out recs_few HN.out).mono ?_
  rintro e w3 ⟨u, L, rfl, hL, hD, hb3⟩
  rw [HM.out] at hL ⊢
  have HL := Lib.hid hL
  have HLL := Lib.hid (show L.length = M.2.length by rw [← hL, List.length_map])
  have HLS := Lib.hid (show ∀ y ∈ L, SmallD y.1 from fun y hy => right_smallD (HMS.out y.1 (by rw [← hL]; exact List.mem_map.2 ⟨y, hy, rfl⟩)))
  have X3 := Lib.hid (show Below w1.heap.size w1 (w3.alloc (.cells #[.int .i64 M.1.1, .int .i64 M.1.2] 33)) from (B2.out.trans (hb3.mono B2.out.size)).alloc (Nat.le_trans B2.out.size hb3.size) _)
  have Q3 := Lib.hid (show Blk (w3.alloc (.cells #[.int .i64 M.1.1, .int .i64 M.1.2] 33)) w3.heap.size 2 (rowL [.int .i64 M.1.1, .int .i64 M.1.2]) from Blk.new' rfl (row2_ _ _))
  have D3 := Lib.hid (show BvAt (w3.alloc (.cells #[.int .i64 M.1.1, .int .i64 M.1.2] 33)) u L from (hD.on (Keeps.of ((Below.refl _ _).alloc (Nat.le_refl _) _))).now)
  obtain ⟨ua, uc, hu⟩ := bv_shape hD.now
  subst hu
  clear hL hD hb3
  go_upto_region 8 with fail
  obtain ⟨q, hq⟩ : ∃ q, w3.heap.size = q := ⟨_, rfl⟩
  obtain ⟨w4, hw4⟩ : ∃ w4, w3.alloc (.cells #[.int .i64 M.1.1, .int .i64 M.1.2] 33) = w4 := ⟨_, rfl⟩
  rw [hw4] at X3 Q3 D3
  rw [hq] at Q3
  rw [hw4, hq]
  clear hw4 hq
  have HSC := Lib.hid (fun (wx : World) (hb : Below w4.heap.size w4 wx) => cells2 (Q3.out.below hb Q3.out.lt))
  refine plan_abs (fun wx => Below w4.heap.size w4 wx) [(true, 0), (true, 1), (true, 2), (false, 3), (true, 4), (false, 5), (false, 6), (false, 7)] (by kernel_rfl) (by kernel_rfl) (fun _ _ d _ _ h => by cases d <;> exact h) fun w5 hs5 => ⟨hs5.below _, ?_⟩
  have Y5 := Lib.hid (show Below w4.heap.size w4 w5 from hs5.below _)
  clear hs5
  iterate 3 (refine pl_run _ ?_ rfl rfl ?_ ?_; rotate_left; (focus (intro w' hS; obtain ⟨d0, d1⟩ := HSC.out w' hS; go_simp; exact rfl)); simp only [Act.put, List.setIfInBounds_toArray, List.set_cons_zero, List.set_cons_succ, List.getElem_toArray, List.getElem_cons_zero, List.getElem_cons_succ])
  refine pl_call (R := fun u w' => w'.ownsRow w5.heap.size 9 1 u L.length (recsV L) ∧ Below w5.heap.size w5 w') _ rfl rfl (by go_simp) ((blockrecs_any L _ w5 (D3.out.later Y5.out) HLS.out (by rw [HLL.out]; exact HML.out)).mono fun e w' ⟨u, h1, h2, h3⟩ => ⟨u, h1, h2, h3⟩) (fun u w' h => Y5.out.trans (h.2.mono Y5.out.size)) fun u w6 hr => ?_
  obtain ⟨hrow, hb6⟩ := hr
  have HROW := Lib.hid hrow
  have Y6 := Lib.hid (Y5.out.trans (hb6.mono Y5.out.size))
  have Z6 := Lib.hid hb6
  obtain ⟨ra, rc, hre⟩ := own_sl6 hrow
  subst hre
  clear hrow hb6
  simp only [Act.put, List.setIfInBounds_toArray, List.set_cons_zero, List.set_cons_succ, List.getElem_toArray, List.getElem_cons_zero, List.getElem_cons_succ]
  iterate 1 (refine pl_run _ ?_ rfl rfl ?_ ?_; rotate_left; (focus (intro w' hS; go_simp; exact rfl)); simp only [Act.put, List.setIfInBounds_toArray, List.set_cons_zero, List.set_cons_succ, List.getElem_toArray, List.getElem_cons_zero, List.getElem_cons_succ])
  have BX := Lib.hid ((Below.refl w6.heap.size w6).alloc (Nat.le_refl _) (.cells #[.pointer (some ⟨g, 0, none⟩), .int .i64 M.1.1, .int .i64 M.1.2, .slice ra L.length rc] 65))
  have QX := Lib.hid (show Blk (w6.alloc (.cells #[.pointer (some ⟨g, 0, none⟩), .int .i64 M.1.1, .int .i64 M.1.2, .slice ra L.length rc] 65)) w6.heap.size 4 (rowL [.pointer (some ⟨g, 0, none⟩), .int .i64 M.1.1, .int .i64 M.1.2, .slice ra L.length rc]) from Blk.new' rfl (row4_ _ _ _ _))
  obtain ⟨w7, hw7⟩ : ∃ w7, w6.alloc (.cells #[.pointer (some ⟨g, 0, none⟩), .int .i64 M.1.1, .int .i64 M.1.2, .slice ra L.length rc] 65) = w7 := ⟨_, rfl⟩
  refine pl_value (w' := w7) _ (.pointer (some ⟨w6.heap.size, 0, none⟩)) rfl rfl (by rw [← hw7]; go_simp) (by rw [← hw7]; exact Y6.out.trans (BX.out.mono Y6.out.size)) ?_
  rw [hw7] at BX QX
  clear hw7
  simp only [Act.put, List.setIfInBounds_toArray, List.set_cons_zero, List.set_cons_succ, List.getElem_toArray, List.getElem_cons_zero, List.getElem_cons_succ]
  have S7 := Lib.hid (Y6.out.trans (BX.out.mono Y6.out.size))
  refine pl_value (w' := w7) _ (.pointer (some ⟨w6.heap.size, 0, none⟩)) rfl rfl (by go_simp) S7.out ?_
  simp only [Act.put, List.setIfInBounds_toArray, List.set_cons_zero, List.set_cons_succ, List.getElem_toArray, List.getElem_cons_zero, List.getElem_cons_succ]
  refine pl_value (w' := w7) _ (.int .i64 0) rfl rfl (by go_simp) S7.out ?_
  simp only [Act.put, List.setIfInBounds_toArray, List.set_cons_zero, List.set_cons_succ, List.getElem_toArray, List.getElem_cons_zero, List.getElem_cons_succ]
  refine pl_end ?_
  go_wp2_with fail
  have hX7 : Below w1.heap.size w1 w7 := X3.out.trans (S7.out.mono X3.out.size)
  have hz1 : w.heap.size ≤ w1.heap.size := HK1.out.b0.size
  have hz5 : w1.heap.size ≤ w5.heap.size := Nat.le_trans X3.out.size Y5.out.size
  have hz6 := Z6.out.size
  have hrow7 := row_keep HROW.out fun c hc => BX.out.block c (HROW.out.lt c hc).2
  refine bodyPost_ret (v := .tuple #[.pointer (some ⟨w6.heap.size, 0, none⟩), .int .i64 0]) (by simp [results, Tryz.results10, go_sem]) rfl ?_
  refine ⟨w6.heap.size, O', fun b => b = w6.heap.size ∨ (Value.slice ra L.length rc).ownBlock = some b, rfl, at9_keep H1.out (Keeps.of hX7), ⟨_, QX.out, ?_, fun _ => Iff.rfl, fun e => by have := (HROW.out.lt _ e).2; omega⟩, HK1.out.trans (Keeps.of hX7), HO1.out, fun b hb => ?_⟩
  · rw [← HL.out, List.length_map, ← recsV_of]
    exact CC.own_base hrow7 (Nat.zero_le _)
  · have hb1 : w1.heap.size ≤ b := by
      rcases hb with rfl | e
      · omega
      · have := (HROW.out.lt b e).1; omega
    exact ⟨by omega, fun h => by have := at9_lt H1.out b h; omega⟩
end
end Go.Proofs.YtnahebfhhcebpaaGreat
end
section
open Go Go.RowKit
namespace TT
open SS RR FF WW BB
/-- some records are appended: s is the log, rs are left -/
structure WrSt (w : World) (O : Nat → Prop) (g : Nat) (s0 : Lg) (rs : List ByteArray) (i : Nat) (s : Lg) (wr : World) : Prop where
  at_ : ∃ O', At9 O' wr g s ∧ ∀ b, O' b → O b ∨ w.heap.size ≤ b
  keeps : Keeps (fun b => ¬ O b) w wr
  app : appL s0 rs = appL s (rs.drop i)
  size : sizeL s ≤ sizeL s0 + i * 4004
theorem size_append {s : Lg} {r : ByteArray} (h : r.size ≤ 4000) : sizeL (appendL s r).1 ≤ sizeL s + 4004 := by
  unfold appendL
  split
  · show sizeL s ≤ _; omega
  · split
    · show sizeL s ≤ _; omega
    · split
      · show s.safe.size + s.wait.size ≤ sizeL s + 4004; unfold sizeL; omega
      · obtain ⟨e1, e2, e3⟩ := burn_same s
        show (burnL s).safe.size + (s.wait ++ txt r).size ≤ sizeL s + 4004
        rw [e1, ByteArray.size_append, txt_size]
        unfold sizeL; omega
theorem app_end {s : Lg} {r : ByteArray} {l : List ByteArray} (h : (appendL s r).2 ≠ 0) : appL s (r :: l) = appendL s r := by
  show (if (appendL s r).2 = 0 then appL (appendL s r).1 l else appendL s r) = _
  rw [if_neg h]
theorem app_next {s : Lg} {r : ByteArray} {l : List ByteArray} (h : (appendL s r).2 = 0) : appL s (r :: l) = appL (appendL s r).1 l := by
  show (if (appendL s r).2 = 0 then appL (appendL s r).1 l else appendL s r) = _
  rw [if_pos h]
theorem drop_at {l : List ByteArray} {i : Nat} (h : i < l.length) : l.drop i = l.getD i ⟨#[]⟩ :: l.drop (i + 1) := by
  rw [List.drop_eq_getElem_cons h, List.getD_eq_getElem?_getD, List.getElem?_eq_getElem h]; rfl
section
variable {w wr w' : World} {O : Nat → Prop} {g : Nat} {s0 s s' : Lg} {rs : List ByteArray} {i : Nat}
theorem WrSt.next (h : WrSt w O g s0 rs i s wr) (hn : ∃ O', Next9 At9 O' wr g s' w' ∧ (∀ b, O' b → O b ∨ w.heap.size ≤ b)) : (∃ O', At9 O' w' g s' ∧ ∀ b, O' b → O b ∨ w.heap.size ≤ b) ∧ Keeps (fun b => ¬ O b) w w' := by
  obtain ⟨O', ⟨O2, h1, h2, h3⟩, h4⟩ := hn
  refine ⟨⟨O2, h1, fun b hb => (h3 b hb).elim (h4 b) fun h5 => .inr (Nat.le_trans h.keeps.b0.size h5)⟩, ⟨h.keeps.b0.trans h2.b0, fun b hb hl => (h2.block b (fun ho => (h4 b ho).elim hb fun h5 => by omega) (Nat.lt_of_lt_of_le hl h.keeps.b0.size)).trans (h.keeps.block b hb hl)⟩⟩
end
end TT
namespace Go.Proofs.YtnahebfhhcebpaaGreat
open TT SS RR FF JJ CC WW BB
section
variable (O O1 : Nat → Prop) (w : World) (m g : Nat) (st : MemT) (s : Lg)
set_option maxRecDepth 100000 in
set_option maxHeartbeats 8000000 in
/-- records become safe -/
theorem recwrite_any (vb : Value) (rs : List ByteArray) (v : Value) (A : Nat → Prop) (h : At9 O w g s) (hm : MemIs 9 O1 w m g st vb) (hmO : ¬ O m) (hv : StrsIn A w v rs) (hA : ∀ b, A b → ¬ O b) (hr : ∀ r ∈ rs, r.size ≤ 4000) (hl : rs.length ≤ 20) (hz : sizeL s ≤ 900000) :
    Calls Tryz.prog 31 #[.pointer (some ⟨m, 0, none⟩), v] w fun e w' => e = .returned (.int .i64 (putL s rs).2) ∧ Next9 At9 O w g (putL s rs).1 w' := by
  have HM := Lib.hid hm
  have HMO := Lib.hid hmO
  have HV := Lib.hid hv
  have HA := Lib.hid hA
  have HR := Lib.hid hr
  have HL := Lib.hid hl
  have HZ := Lib.hid hz
  have K0 := Lib.hid (show WrSt w O g s rs 0 s w from ⟨⟨O, h, fun b hb => .inl hb⟩, Keeps.refl _ _, rfl, by omega⟩)
  obtain ⟨a0, cap, rfl, _⟩ := hv
  obtain ⟨P, hP⟩ : ∃ P, putL s rs = P := ⟨_, rfl⟩
  rw [hP]
  have HP := Lib.hid hP
  obtain ⟨c0, c1, c2, c3⟩ := hm.cells
  clear hm hmO hA hr hl hz hP c1 c2 c3
  by_cases h0 : rs = []
  · have HE := Lib.hid (show P = (s, 0) by rw [← HP.out]; unfold putL; rw [if_pos h0])
    have t0 : (rs.length : Int) = 0 := by rw [h0]; rfl
    have HH := Lib.hid h
    clear h h0
    go_enter Tryz.func31, Tryz.ntmps31
    go_wp2_with fail
    go_ret
    rw [HE.out]
    exact ⟨rfl, O, HH.out, Keeps.refl _ _, fun b hb => .inl hb⟩
  · have HP := Lib.hid (show P = (if (appL s rs).2 = 0 then syncL (appL s rs).1 else appL s rs) by rw [← HP.out]; unfold putL; rw [if_neg h0])
    have t0 : ((rs.length : Int) == 0) = false := by
      have : 0 < rs.length := List.length_pos_iff.2 h0
      rw [beq_eq_false_iff_ne]; omega
    clear h h0
    go_enter Tryz.func31, Tryz.ntmps31
    go_wp2_with fail
    go_loopw [22] (fun y wr => ∃ (i : Nat) (s' : Lg), i ≤ rs.length ∧ y = .int .i64 (i : Int) ∧ WrSt w O g s rs i s' wr) (fun y _ => rs.length - (intOf y).toNat)
    case atStart => exact ⟨0, s, Nat.zero_le _, rfl, K0.out⟩
    case round =>
      obtain ⟨i, s', hi, rfl, hst⟩ := hrel
      have HST := Lib.hid hst
      have i0' : (0 : Int) ≤ (i : Int) := by omega
      have ib : (i : Int) ≤ 20 := by have := HL.out; omega
      have c0 := (World.cell?_of_block (a := ⟨m, 0, none⟩) (hst.keeps.block m HMO.out HM.out.blk.lt)).trans HM.out.cells.1
      clear hst
      by_cases h1 : i < rs.length
      · have h1' : (i : Int) < (rs.length : Int) := by omega
        have HLT := Lib.hid h1
        obtain ⟨tb, toff, rfl, hbA, hbw, hcell⟩ : ∃ b off, a0 = some ⟨b, off, none⟩ ∧ A b ∧ b < w.heap.size ∧ ∀ i, i < rs.length → w.cell? ⟨b, off + i, none⟩ = some (.string (rs.getD i ⟨#[]⟩)) := by
          obtain ⟨a1, c1, he, _, h | ⟨b, off, h2, h3, h4, h5⟩⟩ := HV.out
          · rw [h] at h1; simp at h1
          · injection he with e1 _ _
            exact ⟨b, off, e1.trans h2, h3, h4, h5⟩
        have k1 := (World.cell?_of_block (a := ⟨tb, toff + i, none⟩) (HST.out.keeps.block tb (HA.out tb hbA) hbw)).trans (hcell i h1)
        obtain ⟨r, hr⟩ : ∃ r, rs.getD i ⟨#[]⟩ = r := ⟨_, rfl⟩
        have HDR := Lib.hid (show rs.drop i = r :: rs.drop (i + 1) by rw [← hr]; exact drop_at h1)
        have HRS := Lib.hid (show r.size ≤ 4000 from HR.out r (by rw [← hr, List.getD_eq_getElem?_getD, List.getElem?_eq_getElem h1]; exact List.getElem_mem h1))
        rw [hr] at k1
        clear h1 hi hbw hcell hr hbA
        obtain ⟨O', hO', hO2⟩ := HST.out.at_
        have HO2 := Lib.hid hO2
        have HAP := Lib.hid (append9 O' wr g s' r hO' (by have := HST.out.size; have := HZ.out; omega) (by have := HRS.out; omega))
        clear hO' hO2
        go_wp2_with fail
        refine HAP.out.mono ?_
        rintro e w2 ⟨rfl, hn⟩
        have hn : Next9 At9 O' wr g (appendL s' r).1 w2 := hn
        obtain ⟨k2, k3⟩ := HST.out.next ⟨O', hn, HO2.out⟩
        have K2 := Lib.hid k2
        have K3 := Lib.hid k3
        have HRES := Lib.hid (show (doL s' 0 r 0).2 = (appendL s' r).2 from rfl)
        rw [HRES.out]
        clear hn k2 k3 k1 c0 HAP
        by_cases he : (appendL s' r).2 = 0
        · have HE := Lib.hid he
          rw [he]
          clear he
          go_wp2_with fail
          go_roundw
          case rel => exact ⟨i + 1, (appendL s' r).1, by have := HLT.out; omega, by go_num, K2.out, K3.out, by rw [HST.out.app, HDR.out, app_next HE.out], by have := size_append (s := s') HRS.out; have := HST.out.size; omega⟩
          case measure => have := HLT.out; simp [intOf]; omega
        · have HE := Lib.hid (show P = appendL s' r by rw [HP.out, HST.out.app, HDR.out, app_end he, if_neg he])
          obtain ⟨E, hE⟩ : ∃ E, (appendL s' r).2 = E := ⟨_, rfl⟩
          rw [hE]
          rw [hE] at he
          have HEE := Lib.hid hE
          have t1 : (E == 0) = false := by simpa using he
          clear hE
          go_wp2_with fail
          go_ret
          obtain ⟨O2, h2, h3⟩ := K2.out
          rw [HE.out, HEE.out]
          exact ⟨rfl, O2, h2, K3.out, h3⟩
      · obtain rfl : i = rs.length := by omega
        have h1' : ¬ ((rs.length : Nat) : Int) < ((rs.length : Nat) : Int) := by omega
        have HAP := Lib.hid (show appL s rs = (s', 0) by rw [HST.out.app, List.drop_length]; rfl)
        have HE := Lib.hid (show P = syncL s' by rw [HP.out, HAP.out]; rfl)
        clear h1 hi
        obtain ⟨O', hO', hO2⟩ := HST.out.at_
        have HO2 := Lib.hid hO2
        have HSY := Lib.hid (sync9 O' wr g s' hO')
        clear hO' hO2
        go_wp2_with fail
        refine HSY.out.mono ?_
        rintro e w2 ⟨rfl, hn⟩
        have hn : Next9 At9 O' wr g (syncL s').1 w2 := hn
        obtain ⟨k2, k3⟩ := HST.out.next ⟨O', hn, HO2.out⟩
        have K2 := Lib.hid k2
        have K3 := Lib.hid k3
        clear hn k2 k3 c0 HSY
        go_wp2_with fail
        go_ret
        obtain ⟨O2, h2, h3⟩ := K2.out
        rw [HE.out]
        exact ⟨rfl, O2, h2, K3.out, h3⟩
end
end Go.Proofs.YtnahebfhhcebpaaGreat
end
section
open Go Go.RowKit
namespace Go.Proofs.YtnahebfhhcebpaaGreat
open TT SS RR FF JJ CC MM WW BB
set_option maxRecDepth 100000 in
set_option maxHeartbeats 4000000 in
theorem uifun_any (O : List Bv) (v : Value) (kv : Nat) (ev : Array Value) (p : Bv → Bool) (w : World) (hv : BvAt w v O) (hl : O.length ≤ 1000)
    (hp : ∀ i (_ : i < O.length) (wr : World), Below w.heap.size w wr → CallsV Tryz.prog (.func (.func kv) #[] ev) #[bvV (O.getD i vb0)] wr fun e w' => e = .returned (.bool (p (O.getD i vb0))) ∧ Below wr.heap.size wr w') :
    Calls Tryz.prog 65 #[v, .func (.func kv) #[] ev] w fun e w' => e = .returned (.int .i64 (idxI O p)) ∧ Below w.heap.size w w' := by
  have HV := Lib.hid hv
  have HL := Lib.hid hl
  have HP := Lib.hid hp
  obtain ⟨a0, cap, rfl⟩ := bv_shape hv
  obtain ⟨X, hX⟩ : ∃ X, idxI O p = X := ⟨_, rfl⟩
  have HTX := Lib.hid hX
  rw [hX]
  clear hl hv hX hp
  go_enter Tryz.func65, Tryz.ntmps65
  go_wp2_with fail
  go_loopw [8] (fun y wr => ∃ i : Nat, i ≤ O.length ∧ y = .int .i64 (i : Int) ∧ (∀ j, j < i → p (O.getD j vb0) = false) ∧ Below w.heap.size w wr) (fun y _ => O.length - (intOf y).toNat)
  case atStart => exact ⟨0, Nat.zero_le _, rfl, fun j hj => absurd hj (Nat.not_lt_zero _), Below.refl _ _⟩
  case round =>
    obtain ⟨i, hi, rfl, hall, hbr⟩ := hrel
    have HALL := Lib.hid hall
    have HBR := Lib.hid hbr
    have i0 : (0 : Int) ≤ (i : Int) := by omega
    have ib : (i : Int) ≤ 1000 := by have := HL.out; omega
    clear hall
    by_cases hlt : i < O.length
    · have hlt' : (i : Int) < (O.length : Int) := by omega
      have HLT := Lib.hid hlt
      obtain ⟨qb, qoff, rfl, _, _, hq⟩ := bv_at HV.out i hlt
      obtain ⟨c0, c1, c2, c3, c4, c5, hin⟩ := hq wr hbr i hlt
      obtain ⟨y, hy⟩ : ∃ y, O.getD i vb0 = y := ⟨_, rfl⟩
      have HY := Lib.hid hy
      have HQ := Lib.hid (HP.out i hlt)
      rw [hy] at c0 c1 c2 c3 c4 c5 HQ hin
      obtain ⟨bd, s5, s6⟩ := y
      obtain ⟨e5, n5, h5⟩ := sl_of_sigs hin.1
      obtain ⟨e6, n6, h6⟩ := sl_of_reqs hin.2
      replace h5 : s5 = .slice e5 (sigsI bd).length n5 := h5
      replace h6 : s6 = .slice e6 bd.2.length n6 := h6
      subst h5 h6
      clear hi hlt hy hbr hq hin
      go_wp2_with (with_reducible refine hold_callv rfl rfl ?_)
      refine wpl_callv (v := .func (.func kv) #[] ev) (args := #[bvV (bd, .slice e5 (sigsI bd).length n5, .slice e6 bd.2.length n6)]) _ rfl rfl rfl (by simp [Act.eval]; rfl) (HQ.out wr HBR.out) (fun e w' h => ⟨_, h.1⟩) ?_
      rintro u w3 ⟨hu, hb3⟩
      injection hu with hu
      subst hu
      have HB3 := Lib.hid (HBR.out.trans (hb3.mono HBR.out.size))
      clear hb3 HQ
      rcases hpp : p (bd, .slice e5 (sigsI bd).length n5, .slice e6 bd.2.length n6) with _ | _
      · have HPP := Lib.hid hpp
        clear hpp
        go_wp2_with fail
        go_roundw
        case rel => exact ⟨i + 1, by have := HLT.out; omega, by go_num, fun j hj => if h : j = i then by subst h; rw [HY.out]; exact HPP.out else HALL.out j (by omega), HB3.out⟩
        case measure => have := HLT.out; simp [intOf]; omega
      · have HPP := Lib.hid hpp
        clear hpp
        go_wp2_with fail
        go_ret
        refine ⟨?_, HB3.out⟩
        rw [← HTX.out, idx_hit i HLT.out (fun j hj => by rw [← getD_at (d := vb0)]; exact HALL.out j hj) (by rw [← getD_at (d := vb0) HLT.out, HY.out]; exact HPP.out)]
        rfl
    · obtain rfl : i = O.length := by omega
      have hlt' : ¬ (O.length : Int) < (O.length : Int) := by omega
      clear hi hlt
      go_wp2_with fail
      go_ret
      refine ⟨?_, HBR.out⟩
      rw [← HTX.out, idx_none (fun j hj => by rw [← getD_at (d := vb0)]; exact HALL.out j hj)]
      rfl
set_option maxRecDepth 100000 in
set_option maxHeartbeats 4000000 in
theorem ucfun_any (O : List Bv) (v : Value) (kv : Nat) (ev : Array Value) (p : Bv → Bool) (b : Bool) (hb : O.any p = b) (w : World) (hv : BvAt w v O) (hl : O.length ≤ 1000)
    (hp : ∀ i (_ : i < O.length) (wr : World), Below w.heap.size w wr → CallsV Tryz.prog (.func (.func kv) #[] ev) #[bvV (O.getD i vb0)] wr fun e w' => e = .returned (.bool (p (O.getD i vb0))) ∧ Below wr.heap.size wr w') :
    Calls Tryz.prog 44 #[v, .func (.func kv) #[] ev] w fun e w' => e = .returned (.bool b) ∧ Below w.heap.size w w' := by
  have HV := Lib.hid hv
  have HL := Lib.hid hl
  have HP := Lib.hid hp
  have HB := Lib.hid hb
  obtain ⟨a0, cap, rfl⟩ := bv_shape hv
  clear hl hb hp hv
  go_enter Tryz.func44, Tryz.ntmps44
  go_wp2_with fail
  refine (uifun_any O _ kv ev p w HV.out HL.out HP.out).mono ?_
  rintro e w2 ⟨rfl, hb2⟩
  go_wp2_with fail
  go_ret
  refine ⟨?_, hb2⟩
  rw [← HB.out, ← idx_any]; rfl
theorem own_allright : WW.Own Tryz.prog 45 := ⟨_, Tryz.func45, by kernel_rfl, by kernel_rfl⟩
set_option maxRecDepth 100000 in
set_option maxHeartbeats 4000000 in
/-- what tells of one block that it isn't right -/
theorem allright1_any (y : Bv) (w : World) (hi : InnB w y) (hs : SmallT y.1) :
    Calls Tryz.prog 45 #[bvV y] w fun e w' => e = .returned (.bool (!decide (blockOk y.1))) ∧ Below w.heap.size w w' := by
  obtain ⟨⟨⟨⟨v, p⟩, ⟨⟨cv, k⟩, l⟩⟩, m⟩, sv, rv⟩ := y
  obtain ⟨h1, h2⟩ := hi
  replace h1 : SigsAt w sv l := h1
  replace h2 : ReqsAt w rv m := h2
  replace hs : SmallB k l m := hs
  have HC := Lib.hid (fun wx (hb : Below w.heap.size w wx) => uright_any v p cv k sv rv l m wx (h1.later hb) (h2.later hb) hs.1 hs.2.1 hs.2.2.1 hs.block)
  obtain ⟨X, hX⟩ : ∃ X, rightBlock v p cv k l m = X := ⟨_, rfl⟩
  rw [hX] at HC
  have HX := Lib.hid (show (!decide (blockOk ((((v, p), ((cv, k), l)), m), sv, rv).1)) = !X by rw [← hX]; show (!decide (rightBlock v p cv k l m = true)) = _; simp)
  rw [HX.out]
  obtain ⟨a0, cap, rfl, _⟩ := h1
  obtain ⟨a1, cap1, rfl, _⟩ := h2
  have X1 := Lib.hid ((Below.refl w.heap.size w).alloc (Nat.le_refl _) (.cells #[.int .i64 v, .int .i64 p, .int .i64 cv, .string k, .slice a0 l.length cap, .slice a1 m.length cap1] 47))
  show Calls Tryz.prog 45 #[.agg #[.int .i64 v, .int .i64 p, .int .i64 cv, .string k, .slice a0 l.length cap, .slice a1 m.length cap1]] w fun e w' => e = .returned (.bool (!X)) ∧ Below w.heap.size w w'
  clear hX hs
  go_enter Tryz.func45, Tryz.ntmps45
  go_wp2_with fail
  refine (HC.out _ X1.out).mono ?_
  rintro e w2 ⟨rfl, hb2⟩
  go_wp2_with fail
  go_ret
  exact ⟨rfl, X1.out.trans (hb2.mono X1.out.size)⟩
set_option maxRecDepth 100000 in
set_option maxHeartbeats 4000000 in
/-- are all blocks right? -/
theorem allright_any (L : List Bv) (v : Value) (w : World) (hv : BvAt w v L) (hl : L.length ≤ 1000) (hs : ∀ y ∈ L, SmallT y.1) (X : Bool) (hX : decide (∀ y ∈ L, blockOk y.1) = X) :
    Calls Tryz.prog 29 #[v] w fun e w' => e = .returned (.bool X) ∧ Below w.heap.size w w' := by
  have HV := Lib.hid hv
  have HL := Lib.hid hl
  have HS := Lib.hid hs
  have HX := Lib.hid (show L.any (fun y => !decide (blockOk y.1)) = !X by
    rw [← hX, Bool.eq_iff_iff]
    simp)
  obtain ⟨a0, cap, rfl⟩ := bv_shape hv
  clear hv hl hs hX
  go_enter Tryz.func29, Tryz.ntmps29
  go_wp2_with fail
  refine (ucfun_any L _ 45 #[] (fun y => !decide (blockOk y.1)) (!X) HX.out w HV.out HL.out (fun i hi wr hbr => ?_)).mono ?_
  · obtain ⟨qb, qoff, _, _, _, hq⟩ := bv_at HV.out i hi
    obtain ⟨_, _, _, _, _, _, hin⟩ := hq wr hbr i hi
    exact ⟨_, _, rfl, own_allright, allright1_any _ wr hin (HS.out _ (by rw [getD_at hi]; exact List.getElem_mem hi))⟩
  · rintro e w2 ⟨rfl, hb2⟩
    go_wp2_with fail
    go_ret
    exact ⟨by simp, hb2⟩
end Go.Proofs.YtnahebfhhcebpaaGreat
end
