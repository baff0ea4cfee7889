/-
  The walk of Below of the code's tally (layer 14).
-/
import Derived.Test.YtegkhhegapnkpaaDoorKTaRefC
import Derived.Test.YtegkhhegapnkpaaDoorKWZeroR
import Derived.ArgAppend
import Derived.Test.YtegkhhegapnkpaaDoorKFAt
import Derived.Test.YtegkhhegapnkpaaDoorKFAdopt
import Derived.Test.YtegkhhegapnkpaaDoorKGWait
import Derived.Test.YtegkhhegapnkpaaDoorKECopied
import Derived.Test.YtegkhhegapnkpaaDoorKCallsW
import Derived.Maps.AppendAt
import Derived.Test.YtegkhhegapnkpaaDoorKEText
import Derived.Test.YtegkhhegapnkpaaDoorKMLawS
import Derived.Test.YtegkhhegapnkpaaDoorKPlanE
import Derived.BigQuiet
section
open Go Go.RowKit
namespace TA
open RR FF JJ CC MM WW BB
theorem told_len {T : Ta} {x : Vt} (hi : InvTa T) (ht : toldT T x = true) {L : List Sg} (hL : L.map bare = sigsT (addT T x).votes x.1 x.2.1) : ((mkL L).map bare).length = cntL (addT T x).votes x.1 x.2.1 := by
  have hia := hi.add x
  obtain ⟨hs, hn⟩ := hia.sigs x.1 x.2.1
  obtain ⟨e1, e2, e3, _⟩ := add_same T x
  unfold toldT at ht
  rw [Bool.and_eq_true, decide_eq_true_eq] at ht
  obtain ⟨⟨h1, h2, _, h4⟩, _⟩ := may_of (ok_of ht.1).1
  rw [← hL, e1, e2, e3] at hs
  rw [← hL] at hn
  rw [(told_holds hs hn ⟨h1, h2⟩ h4).2.1]
  have h9 : (L.map bare).length = cntL (addT T x).votes x.1 x.2.1 := by rw [hL, sigsT_len]
  rw [List.length_map] at h9
  exact h9
end TA
namespace Go.Proofs.YtegkhhegapnkpaaDoor
open TA RR FF JJ CC MM WW BB
set_option maxRecDepth 100000 in
set_option maxHeartbeats 64000000 in
theorem lawP14 (C : Code14) (d n : Int) (L : List Vw) (v : Value) (w : World) (hd : I64 d) (hn : I64 n) (hT : Tabs w) (hv : OpsA w v L) (hm : MemA L) :
    Calls Tryd.prog 10 #[.agg #[.int .i64 d, .int .i64 n], v] w fun e w' => e = .returned (.bool true) ∧ Below w.heap.size w w' := by
  have HT := Lib.hid hT
  have HV := Lib.hid hv
  have HM := Lib.hid hm
  have HDN := Lib.hid (And.intro hd hn)
  obtain ⟨a0, cap, rfl, _⟩ := hv
  have B1 := Lib.hid ((Below.refl w.heap.size w).alloc (Nat.le_refl _) (.cells #[.int .i64 d, .int .i64 n] 89))
  have L1 := Lib.hid (show Blk (w.alloc (.cells #[.int .i64 d, .int .i64 n] 89)) w.heap.size 2 (rowL [.int .i64 d, .int .i64 n]) from Blk.new' rfl (row2_ _ _))
  clear hT hm hd hn
  go_enter Tryd.func10, Tryd.ntmps10
  go_upto_region 1 with fail
  obtain ⟨y0, hy0⟩ : ∃ y0, w.heap.size = y0 := ⟨_, rfl⟩
  obtain ⟨w1, hw1⟩ : ∃ w1, w.alloc (.cells #[.int .i64 d, .int .i64 n] 89) = w1 := ⟨_, rfl⟩
  rw [hw1] at B1 L1 ⊢
  rw [hy0] at L1 ⊢
  clear hw1 hy0
  go_wp2_with fail
  refine (awake14_any C w1 (tabs_on HT.out B1.out)).mono ?_
  rintro e w2 ⟨rfl, hb2⟩
  have B2 := Lib.hid (B1.out.trans (hb2.mono B1.out.size))
  have L2 := Lib.hid (L1.out.below hb2 L1.out.lt)
  clear hb2
  go_wp2_with fail
  refine (few14_any L _ 50 w2 (HV.out.later B2.out) HM.out).mono ?_
  rintro e w3 ⟨X, rfl, hX, hb3⟩
  have B3 := Lib.hid (B2.out.trans (hb3.mono B2.out.size))
  have L3 := Lib.hid (L2.out.below hb3 L2.out.lt)
  have HX := Lib.hid hX
  clear hb3 hX
  cases X with
  | false =>
    go_wp2_with fail
    refine (awake14_any C w3 (tabs_on HT.out B3.out)).mono ?_
    rintro e wz ⟨rfl, hbz⟩
    have BZ := Lib.hid (B3.out.trans (hbz.mono B3.out.size))
    go_wp2_with fail
    go_ret
    exact ⟨rfl, BZ.out⟩
  | true =>
  have HL50 := Lib.hid (show L.length ≤ 50 by have := (HX.out rfl).1; omega)
  have HFEW := Lib.hid (fun i (hi : i < L.length) => (HX.out rfl).2 i hi (by have := HL50.out; omega))
  obtain ⟨c0, c1⟩ := cells2 L3.out
  go_wp2_with fail
  refine (ta_new C w w3 ⟨#[115]⟩ d n B3.out (by decide)).mono ?_
  rintro e w4 ⟨g, rfl, h4, hb4⟩
  have H4 := Lib.hid (h4.less (Z' := fun _ => False) fun _ h => h.elim)
  have L4 := Lib.hid (L3.out.below hb4 L3.out.lt)
  have Z4 := Lib.hid hb4.size
  clear h4 hb4 c0 c1
  obtain ⟨c0, c1⟩ := cells2 L4.out
  have A5 := (Below.refl w4.heap.size w4).alloc (Nat.le_refl _) (.cells #[.string ⟨#[115]⟩, .int .i64 d, .int .i64 n, .int .i64 0, .slice none 0 0] 96)
  have HR5 := Lib.hid (show RtM (w4.alloc (.cells #[.string ⟨#[115]⟩, .int .i64 d, .int .i64 n, .int .i64 0, .slice none 0 0] 96)) 100 w3.heap.size w4.heap.size (newT ⟨#[115]⟩ d n) [] (.slice none 0 0) from
    ⟨Blk.new' rfl (row5_ _ _ _ _ _), World.ownsRow_nil _ _ _ _, rfl, (fun x hx => by cases hx), (fun e => by cases e)⟩)
  have HX5 := Lib.hid ((H4.out.more A5 (fun b => b = w4.heap.size) (fun b hb => by rw [hb]; exact Nat.le_refl _)).less (Z' := fun b => b = w4.heap.size ∨ (Value.slice none 0 0).ownBlock = some b) fun b hb => hb.elim (fun h => .inr ⟨h, by rw [h]; simp⟩) fun h => by cases h)
  have HZ5 := Lib.hid (Nat.le_trans Z4.out A5.size)
  clear A5
  go_upto_region 5 with fail
  obtain ⟨y, hy⟩ : ∃ y, w4.heap.size = y := ⟨_, rfl⟩
  have HYL := Lib.hid (show w3.heap.size ≤ y by rw [← hy]; exact Z4.out)
  obtain ⟨w5, hw5⟩ : ∃ w5, w4.alloc (.cells #[.string ⟨#[115]⟩, .int .i64 d, .int .i64 n, .int .i64 0, .slice none 0 0] 96) = w5 := ⟨_, rfl⟩
  rw [hw5, hy] at HR5 HX5
  rw [hw5] at HZ5
  rw [hw5, hy]
  clear hw5 hy c0 c1
  obtain ⟨T0, hT0⟩ : ∃ T0, newT ⟨#[115]⟩ d n = T0 := ⟨_, rfl⟩
  have HF0 := Lib.hid (show InvTa T0 ∧ T0.seed = ⟨#[115]⟩ ∧ T0.node = d ∧ T0.n = n from hT0 ▸ ⟨inv_newT _ _ _, rfl, rfl, rfl⟩)
  rw [hT0] at HR5 HX5
  clear hT0
  go_wp2_with fail
  go_loopw [7] (fun z wr => ∃ (i : Nat) (T : Ta) (Lr : List Vw) (rv : Value), i ≤ L.length ∧ z = .int .i64 (i : Int) ∧ TaX C w (fun b => b = y ∨ rv.ownBlock = some b) g T wr ∧ RtM wr 100 w3.heap.size y T Lr rv ∧ InvTa T ∧ (T.seed = ⟨#[115]⟩ ∧ T.node = d ∧ T.n = n) ∧ w3.heap.size ≤ wr.heap.size) (fun z _ => L.length - (intOf z).toNat)
  case atStart => exact ⟨0, T0, [], _, Nat.zero_le _, rfl, HX5.out, HR5.out, HF0.out.1, HF0.out.2, HZ5.out⟩
  case round =>
    obtain ⟨i, T, Lr, rv, hi, rfl, hst, hrt, hIT, hsq, hzr⟩ := hrel
    have HST := Lib.hid hst
    have HRT := Lib.hid hrt
    have HIT := Lib.hid hIT
    have HSQ0 := Lib.hid hsq
    have HII := Lib.hid hi
    have HZR := Lib.hid hzr
    have i0 : (0 : Int) ≤ (i : Int) := by omega
    have ib : (i : Int) ≤ 50 := by have := HL50.out; omega
    clear hst hrt hIT hsq hi hzr
    by_cases hlt : i < L.length
    · have hlt' : (i : Int) < (L.length : Int) := by omega
      have HLT := Lib.hid hlt
      have HFX := Lib.hid (HFEW.out i hlt)
      obtain ⟨lb, loff, rfl, _, hts, hat⟩ := ops_at HV.out i hlt
      obtain ⟨P, hP⟩ : ∃ P, L.getD i vw0 = P := ⟨_, rfl⟩
      rw [hP] at hts hat HFX
      obtain ⟨⟨xv, xk, xf, xt⟩, tv, tb⟩ := P
      have HTS := Lib.hid (show StrsAt w tv xt from hts)
      have HFX := Lib.hid (show FewV (xv, xk, xf, xt) from HFX.out)
      have HAT := Lib.hid (fun (wx : World) (hb : Below w.heap.size w wx) => show wx.cell? ⟨lb, loff + i * 5, none⟩ = some (.int .i64 xv) ∧ wx.cell? ⟨lb, loff + i * 5 + 1, none⟩ = some (.string xk) ∧ wx.cell? ⟨lb, loff + i * 5 + 2, none⟩ = some (.int .i64 xf) ∧ wx.cell? ⟨lb, loff + i * 5 + 3, none⟩ = some tv ∧ wx.cell? ⟨lb, loff + i * 5 + 4, none⟩ = some (.bool tb) from hat wx hb)
      obtain ⟨ta, tc, rfl, _⟩ := HTS.out
      have HVT := Lib.hid (few_vote (T := T) HFX.out (by rw [HSQ0.out.2.2]; exact HDN.out.2) (by rw [HSQ0.out.2.1]; exact HDN.out.1) (by rw [HSQ0.out.1]; decide))
      clear hlt hat hP hts
      obtain ⟨q0, q1, q2, q3, q4⟩ := HAT.out wr HST.out.below
      have A6 := Lib.hid ((Below.refl wr.heap.size wr).alloc (Nat.le_refl _) (.cells #[.int .i64 xv, .string xk, .int .i64 xf, .slice ta xt.length tc, .bool tb] 100))
      have L6 := Lib.hid (show Blk (wr.alloc (.cells #[.int .i64 xv, .string xk, .int .i64 xf, .slice ta xt.length tc, .bool tb] 100)) wr.heap.size 5 (rowL [.int .i64 xv, .string xk, .int .i64 xf, .slice ta xt.length tc, .bool tb]) from Blk.new' rfl (row5_ _ _ _ _ _))
      go_upto_region 9 with fail
      clear q0 q1 q2 q3 q4
      obtain ⟨yo, hyo⟩ : ∃ yo, wr.heap.size = yo := ⟨_, rfl⟩
      have HYO := Lib.hid hyo
      have HNY := Lib.hid (show y ≠ yo ∧ rv.ownBlock ≠ some yo from ⟨by have := HRT.out.blk.lt; omega, fun e => by have := (HRT.out.row.lt yo e).2; omega⟩)
      obtain ⟨w6, hw6⟩ : ∃ w6, wr.alloc (.cells #[.int .i64 xv, .string xk, .int .i64 xf, .slice ta xt.length tc, .bool tb] 100) = w6 := ⟨_, rfl⟩
      rw [hw6] at A6 L6 ⊢
      rw [hyo] at L6 ⊢
      clear hw6 hyo
      have H6 := Lib.hid ((HST.out.more A6.out (fun b => b = yo) (fun b hb => by rw [hb]; exact Nat.le_of_eq HYO.out)).less (Z' := fun b => (b = y ∨ rv.ownBlock = some b) ∨ b = yo) fun b hb => hb.imp id fun h => ⟨h, by rw [h]; exact L6.out.lt⟩)
      have HR6 := Lib.hid (HRT.out.on (Keeps.of A6.out))
      have HZ6 := Lib.hid (Nat.le_trans HZR.out A6.out.size)
      obtain ⟨o0, o1, o2, o3, o4⟩ := cells5 L6.out
      have HWL := Lib.hid (show w.heap.size ≤ w3.heap.size from B3.out.size)
      have HZL := Lib.hid (fun b (hb : (b = y ∨ rv.ownBlock = some b) ∨ b = yo) => show w.heap.size ≤ b by
        rcases hb with (h | h) | h
        · rw [h]; exact Nat.le_trans HWL.out HYL.out
        · exact Nat.le_trans HWL.out (HRT.out.row.lt b h).1
        · have h1 := HST.out.below.size; have h2 := HYO.out; omega)
      cases tb with
      | true =>
        go_wp2_with fail
        refine (ta_below C w w6 _ g T xv H6.out HIT.out HFX.out.1.1).mono ?_
        rintro e w7 ⟨rfl, h7, hk7⟩
        have H7 := Lib.hid h7
        have HR7 := Lib.hid (HR6.out.on (hk7.sub fun b hb _ => .inl hb))
        have L7 := Lib.hid (L6.out.of_heap (hk7.block yo (.inr rfl) L6.out.lt))
        have Z7 := Lib.hid (Nat.le_trans HZ6.out hk7.b0.size)
        clear h7 hk7 o0 o1 o2 o3 o4
        obtain ⟨o0, o1, o2, o3, o4⟩ := cells5 L7.out
        go_wp2_with fail
        refine (rbelow_any T Lr rv y w3.heap.size xv w7 HR7.out (by have := HIT.out.few; omega) Z7.out).mono ?_
        rintro e w8 ⟨rfl, rv', h8, hk8, hlo⟩
        have HRQ := Lib.hid h8
        have HK8 := Lib.hid hk8
        have HXQ := Lib.hid (H7.out.turn (Z' := fun b => b = y ∨ rv'.ownBlock = some b) (hk8.sub fun b hb _ e => hb (.inl (.inl e))) HZL.out (fun b hb => hb.elim (fun h => .inl (.inl (.inl h))) fun h => .inr ⟨hlo b h, (h8.row.lt b h).2⟩))
        have HOC := Lib.hid (L7.out.of_heap (hk8.block yo (fun e => HNY.out.1 e.symm) L7.out.lt))
        have HIA := Lib.hid (HIT.out.below xv)
        have HSQ := Lib.hid (show (belowT T xv).seed = ⟨#[115]⟩ ∧ (belowT T xv).node = d ∧ (belowT T xv).n = n from HSQ0.out)
        have HZQ := Lib.hid (Nat.le_trans Z7.out hk8.b0.size)
        clear h8 hk8 hlo o0 o1 o2 o3 o4
        go_wp2_with fail
        have HOQ := Lib.hid (fun (wx : World) (hx : Below w8.heap.size w8 wx) => And.intro (cells5 (HOC.out.below hx HOC.out.lt)) (cells5 (show Blk wx y 5 (taF (belowT T xv) _) from HRQ.out.blk.below hx HRQ.out.blk.lt)))
        obtain ⟨qa, qc, hqs⟩ := row_shape14 HRQ.out.row
        have HLQ := Lib.hid HRQ.out.len
        have HLEN := Lib.hid (fun (wx : World) (hx : Below w8.heap.size w8 wx) => ta_len C w wx _ g (belowT T xv) (HXQ.out.on hx) HIA.out)
        have HCNC := Lib.hid (fun (wx : World) (hx : Below w8.heap.size w8 wx) => ta_count C w wx _ g (belowT T xv) xv xk (HXQ.out.on hx) HIA.out HFX.out.1.1 (by have h50 : xk.size ≤ 50 := HFX.out.2.1; omega))
        have HCNR := Lib.hid (fun (wx : World) (hx : Below w8.heap.size w8 wx) => rcount_any (belowT T xv) _ _ y w3.heap.size xv xk wx (HRQ.out.on (Keeps.of hx)) (by have := HIA.out.few; omega))
        obtain ⟨cn, hcn⟩ : ∃ cn, cntL (belowT T xv).votes xv xk = cn := ⟨_, rfl⟩
        obtain ⟨ln, hln⟩ : ∃ ln, (belowT T xv).votes.length = ln := ⟨_, rfl⟩
        rw [hcn] at HCNC HCNR
        rw [hln] at HLEN HLQ
        have HOQ := Lib.hid (fun (wx : World) (hx : Below w8.heap.size w8 wx) => show (wx.cell? ⟨yo, 0, none⟩ = some (.int .i64 xv) ∧ wx.cell? ⟨yo, 1, none⟩ = some (.string xk)) ∧ wx.cell? ⟨y, 4, none⟩ = some (.slice qa ln qc) from ⟨⟨(HOQ.out wx hx).1.1, (HOQ.out wx hx).1.2.1⟩, by rw [(HOQ.out wx hx).2.2.2.2.2, hqs, HLQ.out]⟩)
        have s8 : ((ln : Int) != (ln : Int)) = false := by simp
        have s9 : ((cn : Int) != (cn : Int)) = false := by simp
        clear hcn hln
        refine plan_abs (fun wx => Below w8.heap.size w8 wx) [(true, 0), (true, 2), (true, 3), (true, 4), (true, 5), (true, 6), (false, 1), (true, 7), (true, 8), (true, 9), (true, 10), (true, 11), (true, 12), (true, 13), (true, 15), (true, 16), (true, 17), (true, 18), (true, 19), (false, 14), (false, 20), (true, 21), (true, 22)] (by kernel_rfl) (by kernel_rfl) (fun _ _ d _ _ h => by cases d <;> exact h) fun w20 hs20 => ⟨hs20.below _, ?_⟩
        have Y20 := Lib.hid (hs20.below w8.heap.size)
        clear hs20
        iterate 6 (refine pl_run _ ?_ rfl rfl ?_ ?_; rotate_left; (focus (intro w' hS; obtain ⟨⟨o0, o1⟩, p4⟩ := HOQ.out w' hS; go_simp; exact rfl)); simp only [Act.put, List.setIfInBounds_toArray, List.set_cons_zero, List.set_cons_succ, List.getElem_toArray, List.getElem_cons_zero, List.getElem_cons_succ])
        refine pl_call1 _ rfl rfl (by go_simp) (HLEN.out w20 Y20.out) (fun w9 hb => Y20.out.trans (hb.mono Y20.out.size)) fun w21 hb21 => ?_
        have Y21 := Lib.hid (Y20.out.trans (hb21.mono Y20.out.size))
        clear hb21
        simp only [Act.put, List.setIfInBounds_toArray, List.set_cons_zero, List.set_cons_succ, List.getElem_toArray, List.getElem_cons_zero, List.getElem_cons_succ]
        iterate 12 (refine pl_run _ ?_ rfl rfl ?_ ?_; rotate_left; (focus (intro w' hS; obtain ⟨⟨o0, o1⟩, p4⟩ := HOQ.out w' hS; go_simp; exact rfl)); simp only [Act.put, List.setIfInBounds_toArray, List.set_cons_zero, List.set_cons_succ, List.getElem_toArray, List.getElem_cons_zero, List.getElem_cons_succ])
        refine pl_call1 _ rfl rfl (by go_simp) (HCNC.out w21 Y21.out) (fun w9 hb => Y21.out.trans (hb.mono Y21.out.size)) fun w22 hb22 => ?_
        have Y22 := Lib.hid (Y21.out.trans (hb22.mono Y21.out.size))
        clear hb22
        simp only [Act.put, List.setIfInBounds_toArray, List.set_cons_zero, List.set_cons_succ, List.getElem_toArray, List.getElem_cons_zero, List.getElem_cons_succ]
        refine pl_call1 _ rfl rfl (by go_simp) (HCNR.out w22 Y22.out) (fun w9 hb => Y22.out.trans (hb.mono Y22.out.size)) fun w23 hb23 => ?_
        have Y23 := Lib.hid (Y22.out.trans (hb23.mono Y22.out.size))
        clear hb23
        simp only [Act.put, List.setIfInBounds_toArray, List.set_cons_zero, List.set_cons_succ, List.getElem_toArray, List.getElem_cons_zero, List.getElem_cons_succ]
        iterate 2 (refine pl_run _ ?_ rfl rfl ?_ ?_; rotate_left; (focus (intro w' hS; go_simp; exact rfl)); simp only [Act.put, List.setIfInBounds_toArray, List.set_cons_zero, List.set_cons_succ, List.getElem_toArray, List.getElem_cons_zero, List.getElem_cons_succ])
        refine pl_end ?_
        go_wp2_with fail
        go_roundw
        case rel => exact ⟨i + 1, _, _, _, by have := HLT.out; omega, by go_num, HXQ.out.on Y23.out, HRQ.out.on (Keeps.of Y23.out), HIA.out, HSQ.out, Nat.le_trans HZQ.out Y23.out.size⟩
        case measure => have := HLT.out; simp [intOf]; omega
      | false =>
        go_wp2_with fail
        refine (ta_add C w w6 _ g T (xv, xk, xf, xt) (.slice ta xt.length tc) HT.out H6.out HIT.out (fun c => c < w.heap.size) (strs_dep14 HTS.out H6.out.below) (fun b hb => .inl hb) HVT.out).mono ?_
        rintro e w7 ⟨cv, rfl, h7, hk7, hc7⟩
        obtain ⟨c1, c2, sa, sn, sc, rfl, hc1, hc0⟩ := cert_shape hc7
        have HC1 := Lib.hid hc1
        have HC0 := Lib.hid hc0
        have HR7 := Lib.hid (HR6.out.on (hk7.sub fun b hb _ => .inl hb))
        have L7 := Lib.hid (L6.out.of_heap (hk7.block yo (.inr rfl) L6.out.lt))
        have Z7 := Lib.hid (Nat.le_trans HZ6.out hk7.b0.size)
        have A8 := (Below.refl w7.heap.size w7).alloc (Nat.le_refl _) (.cells #[.int .i64 c1, .string c2, .slice sa sn sc] 24)
        have H8 := Lib.hid (h7.on A8)
        have HR8 := Lib.hid (HR7.out.on (Keeps.of A8))
        have L8 := Lib.hid (L7.out.below A8 L7.out.lt)
        have Z8 := Lib.hid (Nat.le_trans Z7.out A8.size)
        have LC8 := Lib.hid (show Blk (w7.alloc (.cells #[.int .i64 c1, .string c2, .slice sa sn sc] 24)) w7.heap.size 3 (rowL [.int .i64 c1, .string c2, .slice sa sn sc]) from Blk.new' rfl (row3_ _ _ _))
        have HYC := Lib.hid (show y ≠ w7.heap.size from by have := HR7.out.blk.lt; omega)
        clear h7 hk7 hc7 hc1 hc0 A8
        go_upto_region 13 with fail
        clear o0 o1 o2 o3 o4
        obtain ⟨yc, hyc⟩ : ∃ yc, w7.heap.size = yc := ⟨_, rfl⟩
        obtain ⟨w8, hw8⟩ : ∃ w8, w7.alloc (.cells #[.int .i64 c1, .string c2, .slice sa sn sc] 24) = w8 := ⟨_, rfl⟩
        rw [hw8] at H8 HR8 L8 Z8 LC8 ⊢
        rw [hyc] at LC8 HYC ⊢
        clear hw8 hyc
        have HOB := Lib.hid (fun (wx : World) (hk : wx.heap[yo]? = w8.heap[yo]?) => cells5 (L8.out.of_heap hk))
        have HCB := Lib.hid (fun (wx : World) (hk : wx.heap[yc]? = w8.heap[yc]?) => cells3 (LC8.out.of_heap hk))
        have HIA := Lib.hid (HIT.out.add (xv, xk, xf, xt))
        have HSQ := Lib.hid (show (addT T (xv, xk, xf, xt)).seed = ⟨#[115]⟩ ∧ (addT T (xv, xk, xf, xt)).node = d ∧ (addT T (xv, xk, xf, xt)).n = n by
          obtain ⟨e1, e2, e3, _⟩ := add_same T (xv, xk, xf, xt)
          exact ⟨e1.trans HSQ0.out.1, e2.trans HSQ0.out.2.1, e3.trans HSQ0.out.2.2⟩)
        have HADD := Lib.hid (fun (wx : World) (hx : Below w8.heap.size w8 wx) => radd_any T Lr rv y w3.heap.size (xv, xk, xf, xt) false ta tc wx (HR8.out.on (Keeps.of hx)) HIT.out (HTS.out.later (H8.out.below.trans (hx.mono H8.out.below.size))) (by rw [HSQ0.out.1]; decide) (Nat.le_trans Z8.out hx.size))
        cases hTD : toldT T (xv, xk, xf, xt) with
        | true =>
          obtain ⟨rfl, rfl, Lg, hLg, hsg⟩ := HC1.out hTD
          have HSN := Lib.hid (show sn = cntL (addT T (c1, c2, xf, xt)).votes c1 c2 by
            obtain ⟨a9, k9, e9, _⟩ := hsg.sigs
            injection e9 with _ e9 _
            rw [e9]; exact told_len HIT.out hTD hLg)
          have HTD := Lib.hid hTD
          clear hLg hsg hTD
          refine plan_abs (fun wx => wx.heap[yo]? = w8.heap[yo]? ∧ wx.heap[yc]? = w8.heap[yc]?) [(true, 0), (true, 1), (true, 2), (false, 3), (true, 4), (true, 5), (true, 6), (true, 7), (true, 8), (true, 9), (true, 10), (true, 11), (true, 12), (true, 13), (true, 14), (true, 15), (true, 16), (true, 17), (true, 18), (true, 19), (true, 20), (true, 21), (true, 22), (true, 23), (true, 24), (true, 25), (true, 26), (true, 27), (true, 28), (false, 29), (true, 30), (true, 31), (true, 32), (true, 33), (true, 34), (true, 35), (true, 36), (true, 37), (true, 38), (false, 39), (true, 40), (true, 41), (true, 42)] (by kernel_rfl) (by kernel_rfl) (fun _ _ d _ _ h => by cases d <;> exact h) fun w9 hs9 => ⟨⟨by rw [hs9.heap], by rw [hs9.heap]⟩, ?_⟩
          have Y9 := Lib.hid (hs9.below w8.heap.size)
          clear hs9
          iterate 3 (first | (refine pl_off _ rfl rfl ?_; simp only [Act.put, List.setIfInBounds_toArray, List.set_cons_zero, List.set_cons_succ, List.getElem_toArray, List.getElem_cons_zero, List.getElem_cons_succ]) | (refine pl_run _ ?_ rfl rfl ?_ ?_; rotate_left; (focus (intro w' hS; obtain ⟨o0, o1, o2, o3, o4⟩ := HOB.out w' hS.1; obtain ⟨e0, e1, e2⟩ := HCB.out w' hS.2; go_simp; exact rfl)); simp only [Act.put, List.setIfInBounds_toArray, List.set_cons_zero, List.set_cons_succ, List.getElem_toArray, List.getElem_cons_zero, List.getElem_cons_succ]))
          refine pl_call (R := fun v w' => v = .bool true ∧ ∃ L' rv', RtM w' 100 w3.heap.size y (addT T (c1, c2, xf, xt)) L' rv' ∧ Keeps (fun b => b ≠ y) w9 w' ∧ ∀ b, rv'.ownBlock = some b → rv.ownBlock = some b ∨ w9.heap.size ≤ b) _ rfl rfl (by go_simp)
            ((HADD.out w9 Y9.out).mono fun e w' ⟨he, h⟩ => ⟨_, he, by rw [HTD.out], h⟩) (fun v w' ⟨_, _, _, _, hk, _⟩ => ⟨(hk.block yo (fun e => HNY.out.1 e.symm) (Nat.lt_of_lt_of_le L8.out.lt Y9.out.size)).trans (Y9.out.block yo L8.out.lt), (hk.block yc (fun e => HYC.out e.symm) (Nat.lt_of_lt_of_le LC8.out.lt Y9.out.size)).trans (Y9.out.block yc LC8.out.lt)⟩) fun v w10 hr => ?_
          obtain ⟨rfl, L', rv', hr10, hk10, hlo⟩ := hr
          have HR10 := Lib.hid hr10
          have HLO := Lib.hid hlo
          have HK10 := Lib.hid hk10
          have HS10 := Lib.hid (show w10.heap[yo]? = w8.heap[yo]? ∧ w10.heap[yc]? = w8.heap[yc]? from ⟨(hk10.block yo (fun e => HNY.out.1 e.symm) (Nat.lt_of_lt_of_le L8.out.lt Y9.out.size)).trans (Y9.out.block yo L8.out.lt), (hk10.block yc (fun e => HYC.out e.symm) (Nat.lt_of_lt_of_le LC8.out.lt Y9.out.size)).trans (Y9.out.block yc LC8.out.lt)⟩)
          clear hr10 hlo hk10
          simp only [Act.put, List.setIfInBounds_toArray, List.set_cons_zero, List.set_cons_succ, List.getElem_toArray, List.getElem_cons_zero, List.getElem_cons_succ]
          iterate 25 (first | (refine pl_off _ rfl rfl ?_; simp only [Act.put, List.setIfInBounds_toArray, List.set_cons_zero, List.set_cons_succ, List.getElem_toArray, List.getElem_cons_zero, List.getElem_cons_succ]) | (refine pl_run _ ?_ rfl rfl ?_ ?_; rotate_left; (focus (intro w' hS; obtain ⟨o0, o1, o2, o3, o4⟩ := HOB.out w' hS.1; obtain ⟨e0, e1, e2⟩ := HCB.out w' hS.2; go_simp; exact rfl)); simp only [Act.put, List.setIfInBounds_toArray, List.set_cons_zero, List.set_cons_succ, List.getElem_toArray, List.getElem_cons_zero, List.getElem_cons_succ]))
          obtain ⟨cm, hcm⟩ : ∃ cm, cntL (addT T (c1, c2, xf, xt)).votes c1 c2 = cm := ⟨_, rfl⟩
          have HCM := Lib.hid hcm
          refine pl_call1 (R := fun w' => Below w10.heap.size w10 w') _ rfl rfl (by go_simp) (rcount_any (addT T (c1, c2, xf, xt)) L' rv' y w3.heap.size c1 c2 w10 HR10.out (by have := HIA.out.few; omega)) (fun w' hb => ⟨(hb.block yo (Nat.lt_of_lt_of_le L8.out.lt (Nat.le_trans Y9.out.size HK10.out.b0.size))).trans HS10.out.1, (hb.block yc (Nat.lt_of_lt_of_le LC8.out.lt (Nat.le_trans Y9.out.size HK10.out.b0.size))).trans HS10.out.2⟩) fun w11 hb11 => ?_
          have Y11 := Lib.hid hb11
          have HS11 := Lib.hid (show w11.heap[yo]? = w8.heap[yo]? ∧ w11.heap[yc]? = w8.heap[yc]? from ⟨(hb11.block yo (Nat.lt_of_lt_of_le L8.out.lt (Nat.le_trans Y9.out.size HK10.out.b0.size))).trans HS10.out.1, (hb11.block yc (Nat.lt_of_lt_of_le LC8.out.lt (Nat.le_trans Y9.out.size HK10.out.b0.size))).trans HS10.out.2⟩)
          clear hb11
          simp only [Act.put, List.setIfInBounds_toArray, List.set_cons_zero, List.set_cons_succ, List.getElem_toArray, List.getElem_cons_zero, List.getElem_cons_succ]
          rw [hcm]
          have s3 : ((sn : Int) != (cm : Int)) = false := by rw [HSN.out, hcm]; simp
          clear hcm
          iterate 9 (first | (refine pl_off _ rfl rfl ?_; simp only [Act.put, List.setIfInBounds_toArray, List.set_cons_zero, List.set_cons_succ, List.getElem_toArray, List.getElem_cons_zero, List.getElem_cons_succ]) | (refine pl_run _ ?_ rfl rfl ?_ ?_; rotate_left; (focus (intro w' hS; obtain ⟨o0, o1, o2, o3, o4⟩ := HOB.out w' hS.1; obtain ⟨e0, e1, e2⟩ := HCB.out w' hS.2; go_simp; exact rfl)); simp only [Act.put, List.setIfInBounds_toArray, List.set_cons_zero, List.set_cons_succ, List.getElem_toArray, List.getElem_cons_zero, List.getElem_cons_succ]))
          refine pl_offS _ rfl rfl HS11.out ?_
          simp only [Act.put, List.setIfInBounds_toArray, List.set_cons_zero, List.set_cons_succ, List.getElem_toArray, List.getElem_cons_zero, List.getElem_cons_succ]
          iterate 3 (first | (refine pl_off _ rfl rfl ?_; simp only [Act.put, List.setIfInBounds_toArray, List.set_cons_zero, List.set_cons_succ, List.getElem_toArray, List.getElem_cons_zero, List.getElem_cons_succ]) | (refine pl_run _ ?_ rfl rfl ?_ ?_; rotate_left; (focus (intro w' hS; obtain ⟨o0, o1, o2, o3, o4⟩ := HOB.out w' hS.1; obtain ⟨e0, e1, e2⟩ := HCB.out w' hS.2; go_simp; exact rfl)); simp only [Act.put, List.setIfInBounds_toArray, List.set_cons_zero, List.set_cons_succ, List.getElem_toArray, List.getElem_cons_zero, List.getElem_cons_succ]))
          refine pl_end ?_
          have HRQ := Lib.hid (HR10.out.on (Keeps.of Y11.out))
          have HXQ := Lib.hid (show TaX C w (fun b => b = y ∨ rv'.ownBlock = some b) g (addT T (c1, c2, xf, xt)) w11 from
            (((H8.out.on Y9.out).turn (Z' := fun b => b = y ∨ rv'.ownBlock = some b) (HK10.out.sub fun b hb _ e => hb (.inl (.inl e))) HZL.out (fun b hb => hb.elim (fun h => .inl (.inl (.inl h))) fun h => (HLO.out b h).elim (fun h => .inl (.inl (.inr h))) fun h2 => .inr ⟨h2, (HR10.out.row.lt b h).2⟩)).on Y11.out))
          have HOC := Lib.hid (L8.out.of_heap HS11.out.1)
          have HZQ := Lib.hid (Nat.le_trans Z8.out (Nat.le_trans Y9.out.size (Nat.le_trans HK10.out.b0.size Y11.out.size)))
          go_wp2_with fail
          have HOQ := Lib.hid (fun (wx : World) (hx : Below w11.heap.size w11 wx) => And.intro (cells5 (HOC.out.below hx HOC.out.lt)) (cells5 (show Blk wx y 5 (taF (addT T (c1, c2, xf, xt)) _) from HRQ.out.blk.below hx HRQ.out.blk.lt)))
          obtain ⟨qa, qc, hqs⟩ := row_shape14 HRQ.out.row
          have HLQ := Lib.hid HRQ.out.len
          have HLEN := Lib.hid (fun (wx : World) (hx : Below w11.heap.size w11 wx) => ta_len C w wx _ g (addT T (c1, c2, xf, xt)) (HXQ.out.on hx) HIA.out)
          have HCNC := Lib.hid (fun (wx : World) (hx : Below w11.heap.size w11 wx) => ta_count C w wx _ g (addT T (c1, c2, xf, xt)) c1 c2 (HXQ.out.on hx) HIA.out HFX.out.1.1 (by have h50 : c2.size ≤ 50 := HFX.out.2.1; omega))
          have HCNR := Lib.hid (fun (wx : World) (hx : Below w11.heap.size w11 wx) => rcount_any (addT T (c1, c2, xf, xt)) _ _ y w3.heap.size c1 c2 wx (HRQ.out.on (Keeps.of hx)) (by have := HIA.out.few; omega))
          obtain ⟨cn, hcn⟩ : ∃ cn, cntL (addT T (c1, c2, xf, xt)).votes c1 c2 = cn := ⟨_, rfl⟩
          obtain ⟨ln, hln⟩ : ∃ ln, (addT T (c1, c2, xf, xt)).votes.length = ln := ⟨_, rfl⟩
          rw [hcn] at HCNC HCNR
          rw [hln] at HLEN HLQ
          have HOQ := Lib.hid (fun (wx : World) (hx : Below w11.heap.size w11 wx) => show (wx.cell? ⟨yo, 0, none⟩ = some (.int .i64 c1) ∧ wx.cell? ⟨yo, 1, none⟩ = some (.string c2)) ∧ wx.cell? ⟨y, 4, none⟩ = some (.slice qa ln qc) from ⟨⟨(HOQ.out wx hx).1.1, (HOQ.out wx hx).1.2.1⟩, by rw [(HOQ.out wx hx).2.2.2.2.2, hqs, HLQ.out]⟩)
          have s8 : ((ln : Int) != (ln : Int)) = false := by simp
          have s9 : ((cn : Int) != (cn : Int)) = false := by simp
          clear hcn hln
          refine plan_abs (fun wx => Below w11.heap.size w11 wx) [(true, 0), (true, 2), (true, 3), (true, 4), (true, 5), (true, 6), (false, 1), (true, 7), (true, 8), (true, 9), (true, 10), (true, 11), (true, 12), (true, 13), (true, 15), (true, 16), (true, 17), (true, 18), (true, 19), (false, 14), (false, 20), (true, 21), (true, 22)] (by kernel_rfl) (by kernel_rfl) (fun _ _ d _ _ h => by cases d <;> exact h) fun w20 hs20 => ⟨hs20.below _, ?_⟩
          have Y20 := Lib.hid (hs20.below w11.heap.size)
          clear hs20
          iterate 6 (refine pl_run _ ?_ rfl rfl ?_ ?_; rotate_left; (focus (intro w' hS; obtain ⟨⟨o0, o1⟩, p4⟩ := HOQ.out w' hS; go_simp; exact rfl)); simp only [Act.put, List.setIfInBounds_toArray, List.set_cons_zero, List.set_cons_succ, List.getElem_toArray, List.getElem_cons_zero, List.getElem_cons_succ])
          refine pl_call1 _ rfl rfl (by go_simp) (HLEN.out w20 Y20.out) (fun w9 hb => Y20.out.trans (hb.mono Y20.out.size)) fun w21 hb21 => ?_
          have Y21 := Lib.hid (Y20.out.trans (hb21.mono Y20.out.size))
          clear hb21
          simp only [Act.put, List.setIfInBounds_toArray, List.set_cons_zero, List.set_cons_succ, List.getElem_toArray, List.getElem_cons_zero, List.getElem_cons_succ]
          iterate 12 (refine pl_run _ ?_ rfl rfl ?_ ?_; rotate_left; (focus (intro w' hS; obtain ⟨⟨o0, o1⟩, p4⟩ := HOQ.out w' hS; go_simp; exact rfl)); simp only [Act.put, List.setIfInBounds_toArray, List.set_cons_zero, List.set_cons_succ, List.getElem_toArray, List.getElem_cons_zero, List.getElem_cons_succ])
          refine pl_call1 _ rfl rfl (by go_simp) (HCNC.out w21 Y21.out) (fun w9 hb => Y21.out.trans (hb.mono Y21.out.size)) fun w22 hb22 => ?_
          have Y22 := Lib.hid (Y21.out.trans (hb22.mono Y21.out.size))
          clear hb22
          simp only [Act.put, List.setIfInBounds_toArray, List.set_cons_zero, List.set_cons_succ, List.getElem_toArray, List.getElem_cons_zero, List.getElem_cons_succ]
          refine pl_call1 _ rfl rfl (by go_simp) (HCNR.out w22 Y22.out) (fun w9 hb => Y22.out.trans (hb.mono Y22.out.size)) fun w23 hb23 => ?_
          have Y23 := Lib.hid (Y22.out.trans (hb23.mono Y22.out.size))
          clear hb23
          simp only [Act.put, List.setIfInBounds_toArray, List.set_cons_zero, List.set_cons_succ, List.getElem_toArray, List.getElem_cons_zero, List.getElem_cons_succ]
          iterate 2 (refine pl_run _ ?_ rfl rfl ?_ ?_; rotate_left; (focus (intro w' hS; go_simp; exact rfl)); simp only [Act.put, List.setIfInBounds_toArray, List.set_cons_zero, List.set_cons_succ, List.getElem_toArray, List.getElem_cons_zero, List.getElem_cons_succ])
          refine pl_end ?_
          go_wp2_with fail
          go_roundw
          case rel => exact ⟨i + 1, _, _, _, by have := HLT.out; omega, by go_num, HXQ.out.on Y23.out, HRQ.out.on (Keeps.of Y23.out), HIA.out, HSQ.out, Nat.le_trans HZQ.out Y23.out.size⟩
          case measure => have := HLT.out; simp [intOf]; omega
        | false =>
          obtain ⟨rfl, rfl, rfl⟩ := HC0.out hTD
          have HTD := Lib.hid hTD
          clear hTD
          refine plan_abs (fun wx => wx.heap[yo]? = w8.heap[yo]? ∧ wx.heap[yc]? = w8.heap[yc]?) [(true, 0), (true, 1), (true, 2), (false, 3), (true, 4), (true, 5), (true, 6), (true, 7), (true, 8), (true, 9), (true, 10), (true, 11), (true, 12), (true, 13), (true, 14), (true, 15), (true, 16), (true, 17), (true, 18), (true, 19), (true, 20), (true, 21), (true, 22), (true, 23), (true, 24), (true, 25), (true, 26), (true, 27), (true, 28), (false, 29), (true, 30), (true, 31), (true, 32), (true, 33), (true, 34), (true, 35), (true, 36), (true, 37), (true, 38), (false, 39), (true, 40), (true, 41), (true, 42)] (by kernel_rfl) (by kernel_rfl) (fun _ _ d _ _ h => by cases d <;> exact h) fun w9 hs9 => ⟨⟨by rw [hs9.heap], by rw [hs9.heap]⟩, ?_⟩
          have Y9 := Lib.hid (hs9.below w8.heap.size)
          clear hs9
          iterate 3 (first | (refine pl_off _ rfl rfl ?_; simp only [Act.put, List.setIfInBounds_toArray, List.set_cons_zero, List.set_cons_succ, List.getElem_toArray, List.getElem_cons_zero, List.getElem_cons_succ]) | (refine pl_run _ ?_ rfl rfl ?_ ?_; rotate_left; (focus (intro w' hS; obtain ⟨o0, o1, o2, o3, o4⟩ := HOB.out w' hS.1; obtain ⟨e0, e1, e2⟩ := HCB.out w' hS.2; go_simp; exact rfl)); simp only [Act.put, List.setIfInBounds_toArray, List.set_cons_zero, List.set_cons_succ, List.getElem_toArray, List.getElem_cons_zero, List.getElem_cons_succ]))
          refine pl_call (R := fun v w' => v = .bool false ∧ ∃ L' rv', RtM w' 100 w3.heap.size y (addT T (xv, xk, xf, xt)) L' rv' ∧ Keeps (fun b => b ≠ y) w9 w' ∧ ∀ b, rv'.ownBlock = some b → rv.ownBlock = some b ∨ w9.heap.size ≤ b) _ rfl rfl (by go_simp)
            ((HADD.out w9 Y9.out).mono fun e w' ⟨he, h⟩ => ⟨_, he, by rw [HTD.out], h⟩) (fun v w' ⟨_, _, _, _, hk, _⟩ => ⟨(hk.block yo (fun e => HNY.out.1 e.symm) (Nat.lt_of_lt_of_le L8.out.lt Y9.out.size)).trans (Y9.out.block yo L8.out.lt), (hk.block yc (fun e => HYC.out e.symm) (Nat.lt_of_lt_of_le LC8.out.lt Y9.out.size)).trans (Y9.out.block yc LC8.out.lt)⟩) fun v w10 hr => ?_
          obtain ⟨rfl, L', rv', hr10, hk10, hlo⟩ := hr
          have HR10 := Lib.hid hr10
          have HLO := Lib.hid hlo
          have HK10 := Lib.hid hk10
          have HS10 := Lib.hid (show w10.heap[yo]? = w8.heap[yo]? ∧ w10.heap[yc]? = w8.heap[yc]? from ⟨(hk10.block yo (fun e => HNY.out.1 e.symm) (Nat.lt_of_lt_of_le L8.out.lt Y9.out.size)).trans (Y9.out.block yo L8.out.lt), (hk10.block yc (fun e => HYC.out e.symm) (Nat.lt_of_lt_of_le LC8.out.lt Y9.out.size)).trans (Y9.out.block yc LC8.out.lt)⟩)
          clear hr10 hlo hk10
          simp only [Act.put, List.setIfInBounds_toArray, List.set_cons_zero, List.set_cons_succ, List.getElem_toArray, List.getElem_cons_zero, List.getElem_cons_succ]
          iterate 25 (first | (refine pl_off _ rfl rfl ?_; simp only [Act.put, List.setIfInBounds_toArray, List.set_cons_zero, List.set_cons_succ, List.getElem_toArray, List.getElem_cons_zero, List.getElem_cons_succ]) | (refine pl_run _ ?_ rfl rfl ?_ ?_; rotate_left; (focus (intro w' hS; obtain ⟨o0, o1, o2, o3, o4⟩ := HOB.out w' hS.1; obtain ⟨e0, e1, e2⟩ := HCB.out w' hS.2; go_simp; exact rfl)); simp only [Act.put, List.setIfInBounds_toArray, List.set_cons_zero, List.set_cons_succ, List.getElem_toArray, List.getElem_cons_zero, List.getElem_cons_succ]))
          refine pl_offS _ rfl rfl HS10.out ?_
          simp only [Act.put, List.setIfInBounds_toArray, List.set_cons_zero, List.set_cons_succ, List.getElem_toArray, List.getElem_cons_zero, List.getElem_cons_succ]
          iterate 9 (first | (refine pl_off _ rfl rfl ?_; simp only [Act.put, List.setIfInBounds_toArray, List.set_cons_zero, List.set_cons_succ, List.getElem_toArray, List.getElem_cons_zero, List.getElem_cons_succ]) | (refine pl_run _ ?_ rfl rfl ?_ ?_; rotate_left; (focus (intro w' hS; obtain ⟨o0, o1, o2, o3, o4⟩ := HOB.out w' hS.1; obtain ⟨e0, e1, e2⟩ := HCB.out w' hS.2; go_simp; exact rfl)); simp only [Act.put, List.setIfInBounds_toArray, List.set_cons_zero, List.set_cons_succ, List.getElem_toArray, List.getElem_cons_zero, List.getElem_cons_succ]))
          refine pl_call1 (R := fun w' => Below w10.heap.size w10 w') _ rfl rfl (by go_simp) ((rzcert_any 0 ⟨#[]⟩ (.slice sa 0 sc) [] w10 ⟨sa, sc, rfl, .inl rfl⟩).mono fun e w' h => ⟨by rw [h.1], h.2⟩) (fun w' hb => ⟨(hb.block yo (Nat.lt_of_lt_of_le L8.out.lt (Nat.le_trans Y9.out.size HK10.out.b0.size))).trans HS10.out.1, (hb.block yc (Nat.lt_of_lt_of_le LC8.out.lt (Nat.le_trans Y9.out.size HK10.out.b0.size))).trans HS10.out.2⟩) fun w11 hb11 => ?_
          have Y11 := Lib.hid hb11
          have HS11 := Lib.hid (show w11.heap[yo]? = w8.heap[yo]? ∧ w11.heap[yc]? = w8.heap[yc]? from ⟨(hb11.block yo (Nat.lt_of_lt_of_le L8.out.lt (Nat.le_trans Y9.out.size HK10.out.b0.size))).trans HS10.out.1, (hb11.block yc (Nat.lt_of_lt_of_le LC8.out.lt (Nat.le_trans Y9.out.size HK10.out.b0.size))).trans HS10.out.2⟩)
          clear hb11
          simp only [Act.put, List.setIfInBounds_toArray, List.set_cons_zero, List.set_cons_succ, List.getElem_toArray, List.getElem_cons_zero, List.getElem_cons_succ]
          iterate 3 (first | (refine pl_off _ rfl rfl ?_; simp only [Act.put, List.setIfInBounds_toArray, List.set_cons_zero, List.set_cons_succ, List.getElem_toArray, List.getElem_cons_zero, List.getElem_cons_succ]) | (refine pl_run _ ?_ rfl rfl ?_ ?_; rotate_left; (focus (intro w' hS; obtain ⟨o0, o1, o2, o3, o4⟩ := HOB.out w' hS.1; obtain ⟨e0, e1, e2⟩ := HCB.out w' hS.2; go_simp; exact rfl)); simp only [Act.put, List.setIfInBounds_toArray, List.set_cons_zero, List.set_cons_succ, List.getElem_toArray, List.getElem_cons_zero, List.getElem_cons_succ]))
          refine pl_end ?_
          have HRQ := Lib.hid (HR10.out.on (Keeps.of Y11.out))
          have HXQ := Lib.hid (show TaX C w (fun b => b = y ∨ rv'.ownBlock = some b) g (addT T (xv, xk, xf, xt)) w11 from
            (((H8.out.on Y9.out).turn (Z' := fun b => b = y ∨ rv'.ownBlock = some b) (HK10.out.sub fun b hb _ e => hb (.inl (.inl e))) HZL.out (fun b hb => hb.elim (fun h => .inl (.inl (.inl h))) fun h => (HLO.out b h).elim (fun h => .inl (.inl (.inr h))) fun h2 => .inr ⟨h2, (HR10.out.row.lt b h).2⟩)).on Y11.out))
          have HOC := Lib.hid (L8.out.of_heap HS11.out.1)
          have HZQ := Lib.hid (Nat.le_trans Z8.out (Nat.le_trans Y9.out.size (Nat.le_trans HK10.out.b0.size Y11.out.size)))
          go_wp2_with fail
          have HOQ := Lib.hid (fun (wx : World) (hx : Below w11.heap.size w11 wx) => And.intro (cells5 (HOC.out.below hx HOC.out.lt)) (cells5 (show Blk wx y 5 (taF (addT T (xv, xk, xf, xt)) _) from HRQ.out.blk.below hx HRQ.out.blk.lt)))
          obtain ⟨qa, qc, hqs⟩ := row_shape14 HRQ.out.row
          have HLQ := Lib.hid HRQ.out.len
          have HLEN := Lib.hid (fun (wx : World) (hx : Below w11.heap.size w11 wx) => ta_len C w wx _ g (addT T (xv, xk, xf, xt)) (HXQ.out.on hx) HIA.out)
          have HCNC := Lib.hid (fun (wx : World) (hx : Below w11.heap.size w11 wx) => ta_count C w wx _ g (addT T (xv, xk, xf, xt)) xv xk (HXQ.out.on hx) HIA.out HFX.out.1.1 (by have h50 : xk.size ≤ 50 := HFX.out.2.1; omega))
          have HCNR := Lib.hid (fun (wx : World) (hx : Below w11.heap.size w11 wx) => rcount_any (addT T (xv, xk, xf, xt)) _ _ y w3.heap.size xv xk wx (HRQ.out.on (Keeps.of hx)) (by have := HIA.out.few; omega))
          obtain ⟨cn, hcn⟩ : ∃ cn, cntL (addT T (xv, xk, xf, xt)).votes xv xk = cn := ⟨_, rfl⟩
          obtain ⟨ln, hln⟩ : ∃ ln, (addT T (xv, xk, xf, xt)).votes.length = ln := ⟨_, rfl⟩
          rw [hcn] at HCNC HCNR
          rw [hln] at HLEN HLQ
          have HOQ := Lib.hid (fun (wx : World) (hx : Below w11.heap.size w11 wx) => show (wx.cell? ⟨yo, 0, none⟩ = some (.int .i64 xv) ∧ wx.cell? ⟨yo, 1, none⟩ = some (.string xk)) ∧ wx.cell? ⟨y, 4, none⟩ = some (.slice qa ln qc) from ⟨⟨(HOQ.out wx hx).1.1, (HOQ.out wx hx).1.2.1⟩, by rw [(HOQ.out wx hx).2.2.2.2.2, hqs, HLQ.out]⟩)
          have s8 : ((ln : Int) != (ln : Int)) = false := by simp
          have s9 : ((cn : Int) != (cn : Int)) = false := by simp
          clear hcn hln
          refine plan_abs (fun wx => Below w11.heap.size w11 wx) [(true, 0), (true, 2), (true, 3), (true, 4), (true, 5), (true, 6), (false, 1), (true, 7), (true, 8), (true, 9), (true, 10), (true, 11), (true, 12), (true, 13), (true, 15), (true, 16), (true, 17), (true, 18), (true, 19), (false, 14), (false, 20), (true, 21), (true, 22)] (by kernel_rfl) (by kernel_rfl) (fun _ _ d _ _ h => by cases d <;> exact h) fun w20 hs20 => ⟨hs20.below _, ?_⟩
          have Y20 := Lib.hid (hs20.below w11.heap.size)
          clear hs20
          iterate 6 (refine pl_run _ ?_ rfl rfl ?_ ?_; rotate_left; (focus (intro w' hS; obtain ⟨⟨o0, o1⟩, p4⟩ := HOQ.out w' hS; go_simp; exact rfl)); simp only [Act.put, List.setIfInBounds_toArray, List.set_cons_zero, List.set_cons_succ, List.getElem_toArray, List.getElem_cons_zero, List.getElem_cons_succ])
          refine pl_call1 _ rfl rfl (by go_simp) (HLEN.out w20 Y20.out) (fun w9 hb => Y20.out.trans (hb.mono Y20.out.size)) fun w21 hb21 => ?_
          have Y21 := Lib.hid (Y20.out.trans (hb21.mono Y20.out.size))
          clear hb21
          simp only [Act.put, List.setIfInBounds_toArray, List.set_cons_zero, List.set_cons_succ, List.getElem_toArray, List.getElem_cons_zero, List.getElem_cons_succ]
          iterate 12 (refine pl_run _ ?_ rfl rfl ?_ ?_; rotate_left; (focus (intro w' hS; obtain ⟨⟨o0, o1⟩, p4⟩ := HOQ.out w' hS; go_simp; exact rfl)); simp only [Act.put, List.setIfInBounds_toArray, List.set_cons_zero, List.set_cons_succ, List.getElem_toArray, List.getElem_cons_zero, List.getElem_cons_succ])
          refine pl_call1 _ rfl rfl (by go_simp) (HCNC.out w21 Y21.out) (fun w9 hb => Y21.out.trans (hb.mono Y21.out.size)) fun w22 hb22 => ?_
          have Y22 := Lib.hid (Y21.out.trans (hb22.mono Y21.out.size))
          clear hb22
          simp only [Act.put, List.setIfInBounds_toArray, List.set_cons_zero, List.set_cons_succ, List.getElem_toArray, List.getElem_cons_zero, List.getElem_cons_succ]
          refine pl_call1 _ rfl rfl (by go_simp) (HCNR.out w22 Y22.out) (fun w9 hb => Y22.out.trans (hb.mono Y22.out.size)) fun w23 hb23 => ?_
          have Y23 := Lib.hid (Y22.out.trans (hb23.mono Y22.out.size))
          clear hb23
          simp only [Act.put, List.setIfInBounds_toArray, List.set_cons_zero, List.set_cons_succ, List.getElem_toArray, List.getElem_cons_zero, List.getElem_cons_succ]
          iterate 2 (refine pl_run _ ?_ rfl rfl ?_ ?_; rotate_left; (focus (intro w' hS; go_simp; exact rfl)); simp only [Act.put, List.setIfInBounds_toArray, List.set_cons_zero, List.set_cons_succ, List.getElem_toArray, List.getElem_cons_zero, List.getElem_cons_succ])
          refine pl_end ?_
          go_wp2_with fail
          go_roundw
          case rel => exact ⟨i + 1, _, _, _, by have := HLT.out; omega, by go_num, HXQ.out.on Y23.out, HRQ.out.on (Keeps.of Y23.out), HIA.out, HSQ.out, Nat.le_trans HZQ.out Y23.out.size⟩
          case measure => have := HLT.out; simp [intOf]; omega
    · obtain rfl : i = L.length := by have := HII.out; omega
      have hlt' : ¬ (L.length : Int) < (L.length : Int) := by omega
      clear hlt
      go_wp2_with fail
      go_ret
      exact ⟨rfl, HST.out.below⟩
end Go.Proofs.YtegkhhegapnkpaaDoor
end
section
open Go Go.RowKit
namespace FF
open WW BB
theorem run_clearK {P : Program} (w : World) (t e ty : TypeId) (z : Value) (ht : P.underlying t = some (.slice e)) (hv : ∀ w, (zeroValue e).run P w = .ok z w) (b o n c m : Nat) (hn : 0 < n) (hm : (Builtin.zeroCells z.cells n).toList.length = m)
    (h1 : ∀ v ∈ (Builtin.zeroCells z.cells n).toList, v.oneCell' = true)
    (hc : ∀ j, j < m → (w.cell? ⟨b, o + j, none⟩).isSome = true) (hf : ∀ j, j < m → w.frozen? ⟨b, o + j, none⟩ = false) :
    (Builtin.clear_ #[t] ty #[.slice (some ⟨b, o, none⟩) n c]).run P w = .ok (.tuple #[]) (w.setCells b o (Builtin.zeroCells z.cells n).toList) := by
  have hst := run_storeCells_cells (P := P) b o (Builtin.zeroCells z.cells n).toList 0 w (by simpa [hm] using hc) (by simpa [hm] using hf) h1
  simp only [Nat.add_zero] at hst
  obtain ⟨k, rfl⟩ : ∃ k, n = k + 1 := ⟨n - 1, by omega⟩
  simp [Builtin.clear_, run_underlying ht, hv, hst]
/-- cells from o on are written: those ahead of o stay -/
theorem cells_past (b : Nat) (t : TypeId) : ∀ (vs : List Value) (o : Nat) (w : World) (cur : Array Value), w.heap[b]? = some (.cells cur t (0, 0)) →
    ∃ cur', (w.setCells b o vs).heap[b]? = some (.cells cur' t (0, 0)) ∧ cur'.size = cur.size ∧ ∀ j, j < o → cur'[j]? = cur[j]?
  | [], _, _, cur, h => ⟨cur, h, rfl, fun _ _ => rfl⟩
  | v :: r, o, w, cur, h => by
    have h1 : (w.setCell ⟨b, o, none⟩ v).heap[b]? = some (.cells (cur.setIfInBounds o v) t (0, 0)) := by
      unfold World.setCell
      simp only [Array.getElem?_modify, if_true, h, Option.map_some]
      rfl
    obtain ⟨cur', k1, k2, k3⟩ := cells_past b t r (o + 1) _ _ h1
    refine ⟨cur', k1, by rw [k2]; simp, fun j hj => ?_⟩
    rw [k3 j (by omega), Array.getElem?_setIfInBounds, if_neg (by omega)]
theorem keepC (b : Nat) : ∀ (vs : List Value) (o : Nat) (w : World), Keep b w (w.setCells b o vs)
  | [], _, w => Keep.refl b w
  | v :: r, o, w => (Upd.set w b o v).keep.trans (keepC b r (o + 1) _)
end FF
namespace Go.Proofs.YtegkhhegapnkpaaDoor
open FF JJ CC MM WW BB
end Go.Proofs.YtegkhhegapnkpaaDoor
end
section
open Go Go.RowKit
namespace QU
open FF JJ CC WW BB
section
variable {α : Type}
/-- the cells of things -/
def cellsG (enc : α → List Value) (L : List α) : List Value := (L.map enc).flatten
/-- v is a slice of the things L, in a block that meets A -/
def GRow (k : Nat) (enc : α → List Value) (z : α) (A : Nat → Prop) (w : World) (v : Value) (L : List α) : Prop :=
  ∃ a0 cap, v = .slice a0 L.length cap ∧ (L = [] ∨ ∃ b off, a0 = some ⟨b, off, none⟩ ∧ A b ∧ b < w.heap.size ∧ ∀ i, i < L.length → ∀ j u, (enc (L.getD i z))[j]? = some u → w.cell? ⟨b, off + i * k + j, none⟩ = some u)
theorem GRow.keep {k : Nat} {enc : α → List Value} {z : α} {A A' : Nat → Prop} {w w' : World} {v : Value} {L : List α} (h : GRow k enc z A w v L) (hk : Keeps A' w w') (hA : ∀ b, A b → A' b) : GRow k enc z A w' v L := by
  obtain ⟨a0, cap, rfl, h | ⟨b, off, rfl, ha, hl, hc⟩⟩ := h
  · exact ⟨a0, cap, rfl, .inl h⟩
  · exact ⟨_, cap, rfl, .inr ⟨b, off, rfl, ha, Nat.lt_of_lt_of_le hl hk.b0.size, fun i hi j u hu => (World.cell?_of_block (w := w) (a := ⟨b, off + i * k + j, none⟩) (hk.block b (hA b ha) hl)).trans (hc i hi j u hu)⟩⟩
theorem GRow.later {k : Nat} {enc : α → List Value} {z : α} {A : Nat → Prop} {w w' : World} {v : Value} {L : List α} (h : GRow k enc z A w v L) (hb : Below w.heap.size w w') : GRow k enc z A w' v L :=
  h.keep (A' := fun _ => True) (Keeps.of hb) fun _ _ => trivial
theorem GRow.more {k : Nat} {enc : α → List Value} {z : α} {A A' : Nat → Prop} {w : World} {v : Value} {L : List α} (h : GRow k enc z A w v L) (hA : ∀ b, A b → A' b) : GRow k enc z A' w v L := by
  obtain ⟨a0, cap, rfl, h | ⟨b, off, rfl, ha, hl, hc⟩⟩ := h
  · exact ⟨a0, cap, rfl, .inl h⟩
  · exact ⟨_, cap, rfl, .inr ⟨b, off, rfl, hA b ha, hl, hc⟩⟩
theorem cellsG_snoc (enc : α → List Value) (L : List α) (x : α) : cellsG enc (L ++ [x]) = cellsG enc L ++ enc x := by unfold cellsG; rw [List.map_append, List.flatten_append]; simp
theorem cellsG_len {k : Nat} {enc : α → List Value} (hk : ∀ x, (enc x).length = k) (L : List α) : (cellsG enc L).length = L.length * k := by
  induction L with
  | nil => simp [cellsG]
  | cons x r ih => show (enc x ++ cellsG enc r).length = _; rw [List.length_append, ih, List.length_cons, hk, Nat.add_mul]; omega
theorem cellsG_at {k : Nat} {enc : α → List Value} (hk : ∀ x, (enc x).length = k) (z : α) : ∀ (L : List α) (i j : Nat) (u : Value), i < L.length → (enc (L.getD i z))[j]? = some u → (cellsG enc L)[i * k + j]? = some u
  | [], i, j, u, h, _ => by simp at h
  | x :: r, 0, j, u, _, hu => by
    show (enc x ++ cellsG enc r)[0 * k + j]? = some u
    have hu' : (enc x)[j]? = some u := hu
    have hj : j < (enc x).length := (List.getElem?_eq_some_iff.1 hu').1
    rw [Nat.zero_mul, Nat.zero_add, List.getElem?_append_left hj]; exact hu'
  | x :: r, i + 1, j, u, h, hu => by
    show (enc x ++ cellsG enc r)[(i + 1) * k + j]? = some u
    rw [show (i + 1) * k + j = k + (i * k + j) by rw [Nat.add_mul]; omega, List.getElem?_append_right (by rw [hk]; omega), hk, Nat.add_sub_cancel_left]
    exact cellsG_at hk z r i j u (by simpa using h) (by simpa [List.getD] using hu)
theorem cellsG_of {k : Nat} {enc : α → List Value} (hk : ∀ x, (enc x).length = k) (z : α) : ∀ (L : List α) (m : Nat) (u : Value), (cellsG enc L)[m]? = some u → ∃ i j, i < L.length ∧ m = i * k + j ∧ (enc (L.getD i z))[j]? = some u
  | [], m, u, h => by simp [cellsG] at h
  | x :: r, m, u, h => by
    have h : (enc x ++ cellsG enc r)[m]? = some u := h
    by_cases hm : m < k
    · rw [List.getElem?_append_left (by rw [hk]; exact hm)] at h
      exact ⟨0, m, Nat.succ_pos _, by omega, h⟩
    · rw [List.getElem?_append_right (by rw [hk]; omega), hk] at h
      obtain ⟨i, j, h1, h2, h3⟩ := cellsG_of hk z r (m - k) u h
      exact ⟨i + 1, j, by rw [List.length_cons]; omega, by rw [Nat.add_mul]; omega, by simpa [List.getD] using h3⟩
theorem grow_of_own {k : Nat} {enc : α → List Value} (hk : ∀ x, (enc x).length = k) (z : α) {w : World} {B : Nat} {e : TypeId} {v : Value} {L : List α} (h : w.ownsRow B e k v L.length (cellsG enc L)) : GRow k enc z (fun b => B ≤ b) w v L := by
  rcases h.2 with ⟨rfl, h0⟩ | ⟨g, cap, cur, rfl, hg, hh, hn, hcm, hsz, htk⟩
  · exact ⟨none, 0, by rw [h0], Or.inl (List.eq_nil_of_length_eq_zero h0)⟩
  · have hcell : ∀ j u, j < L.length * k → (cellsG enc L)[j]? = some u → w.cell? ⟨g, j, none⟩ = some u := fun j u hj hu => by
      rw [← htk, List.getElem?_take_of_lt hj, Array.getElem?_toList] at hu
      unfold World.cell?; rw [hh]; simpa using hu
    refine ⟨_, cap, rfl, Or.inr ⟨g, 0, rfl, hg, (Array.getElem?_eq_some_iff.1 hh).1, fun i hil j u hu => ?_⟩⟩
    have hj : j < k := by have := (List.getElem?_eq_some_iff.1 hu).1; rw [hk] at this; exact this
    rw [Nat.zero_add]
    have : (i + 1) * k ≤ L.length * k := Nat.mul_le_mul_right k hil
    rw [Nat.add_mul] at this
    exact hcell _ _ (by omega) (cellsG_at hk z L i j u hil hu)
end
section
variable {P : Program} {ops : Array Oper} {Q : Exit → Act → World → Prop} {a : Act} {w : World} {rest : List Oper} {o : Oper}
end
/-- what is laid anew lies there -/
theorem new_at (w : World) (t : TypeId) (vs : List Value) : ∀ j u, vs[j]? = some u → (w.alloc (.cells vs.toArray t)).cell? ((⟨w.heap.size, 0, none⟩ : Addr).add j) = some u := by
  intro j u hj
  rw [show (⟨w.heap.size, 0, none⟩ : Addr).add j = ⟨w.heap.size, j, none⟩ by unfold Addr.add; split <;> simp_all]
  exact cell_new w _ t j u (by simpa using hj)
theorem row_shape {w : World} {B k n : Nat} {e : TypeId} {v : Value} {xs : List Value} (h : w.ownsRow B e k v n xs) : ∃ a c, v = .slice a n c := by
  rcases h.2 with ⟨h1, h2⟩ | ⟨q, cap, cur, h1, _⟩
  · exact ⟨none, 0, by rw [h1, h2]⟩
  · exact ⟨_, _, h1⟩
/-- an append whose run is known -/
theorem wpl_app_run {P : Program} {w w' : World} {ops : Array Oper} {rest : List Oper} {o : Oper} {a : Act} {Q : Exit → Act → World → Prop} {v' : Value} (hgd : o.guard = none) (s x : Operand) (t : TypeId)
    (ho : o.op = .call { callee := .builtin .append, args := #[s, x], argTypes := #[t, t] }) (hr : (Builtin.append_ #[t, t] o.type #[a.eval s, a.eval x]).run P w = .ok v' w') (h : wpList P ops Q rest (a.put o.dst v') w') : wpList P ops Q (o :: rest) a w := by
  refine wpList_plain hgd fun K hK => ?_
  unfold Oper.wp execOp
  simp only [ho, resolve, invoke, builtin, Sem.run_bind, Sem.run_pure, Result.andThen_ok, List.map_toArray, List.map_cons, List.map_nil, hr]
  exact hK _ _ h
theorem heap_set1 {b : Nat} {t : TypeId} {w : World} {cur : Array Value} (h : w.heap[b]? = some (.cells cur t (0, 0))) (i : Nat) (u : Value) : (w.setCell ⟨b, i, none⟩ u).heap[b]? = some (.cells (cur.setIfInBounds i u) t (0, 0)) := by
  unfold World.setCell
  simp only [Array.getElem?_modify, if_true, h, Option.map_some]
  rfl
/-- cells from o on are written -/
theorem cells_put (b : Nat) (t : TypeId) : ∀ (vs : List Value) (o : Nat) (w : World) (cur : Array Value), w.heap[b]? = some (.cells cur t (0, 0)) → o + vs.length ≤ cur.size →
    ∃ cur', (w.setCells b o vs).heap[b]? = some (.cells cur' t (0, 0)) ∧ cur'.size = cur.size ∧ (∀ j, j < o ∨ o + vs.length ≤ j → cur'[j]? = cur[j]?) ∧ ∀ j u, vs[j]? = some u → cur'[o + j]? = some u
  | [], _, _, cur, h, _ => ⟨cur, h, rfl, fun _ _ => rfl, fun j u hu => by simp at hu⟩
  | v :: r, o, w, cur, h, hs => by
    rw [List.length_cons] at hs
    obtain ⟨cur', k1, k2, k3, k4⟩ := cells_put b t r (o + 1) _ _ (heap_set1 h o v) (by simp; omega)
    refine ⟨cur', k1, by rw [k2]; simp, fun j hj => ?_, fun j u hu => ?_⟩
    · rw [List.length_cons] at hj
      rw [k3 j (by omega), Array.getElem?_setIfInBounds, if_neg (by omega)]
    · cases j with
      | zero =>
        have hu : v = u := by simpa using hu
        subst hu
        rw [Nat.add_zero, k3 o (by omega), Array.getElem?_setIfInBounds, if_pos rfl, if_pos (by omega)]
      | succ j =>
        rw [show o + (j + 1) = o + 1 + j by omega]
        exact k4 j u (by simpa using hu)
section
variable {α : Type}
/-- cells o .. of block b: n things D of k cells each, of a row with room for cap -/
structure RowR (k : Nat) (enc : α → List Value) (t : TypeId) (w : World) (b o n cap : Nat) (D : Nat → α) : Prop where
  heap : ∃ cur, w.heap[b]? = some (.cells cur t (0, 0)) ∧ cur.size = o + cap * k ∧ ∀ i, i < n → ∀ j u, (enc (D i))[j]? = some u → cur[o + i * k + j]? = some u
  room : n ≤ cap
variable {k : Nat} {enc : α → List Value} {t : TypeId} {w w' : World} {b o n cap : Nat} {D : Nat → α}
theorem RowR.lt (h : RowR k enc t w b o n cap D) : b < w.heap.size := by
  obtain ⟨cur, hh, _⟩ := h.heap
  exact (Array.getElem?_eq_some_iff.1 hh).1
theorem RowR.get (h : RowR k enc t w b o n cap D) (i : Nat) (hi : i < n) (j : Nat) (u : Value) (hu : (enc (D i))[j]? = some u) : w.cell? ⟨b, o + i * k + j, none⟩ = some u := by
  obtain ⟨cur, hh, _, hc⟩ := h.heap
  unfold World.cell?
  rw [hh]
  simpa using hc i hi j u hu
theorem RowR.frz (h : RowR k enc t w b o n cap D) (i : Nat) : w.frozen? ⟨b, i, none⟩ = false := by
  obtain ⟨cur, hh, _⟩ := h.heap
  unfold World.frozen?; rw [hh]; simp
theorem RowR.on (h : RowR k enc t w b o n cap D) (e : w'.heap[b]? = w.heap[b]?) : RowR k enc t w' b o n cap D := by
  obtain ⟨cur, hh, r⟩ := h.heap
  exact ⟨⟨cur, e.trans hh, r⟩, h.room⟩
theorem RowR.congr (h : RowR k enc t w b o n cap D) (E : Nat → α) (he : ∀ i, i < n → D i = E i) : RowR k enc t w b o n cap E := by
  obtain ⟨cur, hh, hs, hc⟩ := h.heap
  exact ⟨⟨cur, hh, hs, fun i hi => he i hi ▸ hc i hi⟩, h.room⟩
theorem mul_step {i j k : Nat} (h : i < j) : i * k + k ≤ j * k := by
  have : (i + 1) * k ≤ j * k := Nat.mul_le_mul_right k h
  rwa [Nat.add_mul, Nat.one_mul] at this
theorem RowR.set (hk : ∀ x, (enc x).length = k) (h : RowR k enc t w b o n cap D) (i : Nat) (hi : i < n) (r : α) : RowR k enc t (w.setCells b (o + i * k) (enc r)) b o n cap (put D i r) := by
  obtain ⟨cur, hh, hs, hc⟩ := h.heap
  have h1 := mul_step (k := k) (Nat.lt_of_lt_of_le hi h.room)
  obtain ⟨cur', k1, k2, k3, k4⟩ := cells_put b t (enc r) (o + i * k) w cur hh (by rw [hk, hs]; omega)
  refine ⟨⟨cur', k1, by rw [k2, hs], fun m hm j u hu => ?_⟩, h.room⟩
  by_cases e : m = i
  · subst e
    rw [put_same] at hu
    exact k4 j u hu
  · rw [put_other _ _ e] at hu
    have hj : j < k := by have := (List.getElem?_eq_some_iff.1 hu).1; rwa [hk] at this
    rw [k3 _ ?_]
    · exact hc m hm j u hu
    · rw [hk]
      rcases Nat.lt_or_ge m i with g | g
      · have := mul_step (k := k) g; omega
      · have := mul_step (k := k) (show i < m by omega); omega
/-- what lies ahead stays where cells behind it are written -/
theorem RowR.past (hk : ∀ x, (enc x).length = k) (h : RowR k enc t w b o n cap D) (i : Nat) (hi : i ≤ n) (vs : List Value) : RowR k enc t (w.setCells b (o + i * k) vs) b o i cap D := by
  obtain ⟨cur, hh, hs, hc⟩ := h.heap
  obtain ⟨cur', h1, h2, h3⟩ := cells_past b t vs (o + i * k) w cur hh
  refine ⟨⟨cur', h1, by rw [h2, hs], fun m hm j u hu => ?_⟩, Nat.le_trans hi h.room⟩
  have hj : j < k := by have := (List.getElem?_eq_some_iff.1 hu).1; rwa [hk] at this
  have := mul_step (k := k) hm
  exact (h3 _ (by omega)).trans (hc m (by omega) j u hu)
theorem RowR.some (hk : ∀ x, (enc x).length = k) (h : RowR k enc t w b o n cap D) (j : Nat) (hj : j < n * k) : (w.cell? ⟨b, o + j, none⟩).isSome = true ∧ w.frozen? ⟨b, o + j, none⟩ = false := by
  refine ⟨?_, h.frz _⟩
  have k0 : 0 < k := by
    rcases Nat.eq_zero_or_pos k with e | e
    · subst e; omega
    · exact e
  have hm : j % k < k := Nat.mod_lt j k0
  have hd : j / k < n := Nat.div_lt_of_lt_mul (by rw [Nat.mul_comm]; exact hj)
  have hl : j % k < (enc (D (j / k))).length := by rw [hk]; exact hm
  have hj2 : j / k * k + j % k = j := by rw [Nat.mul_comm]; exact Nat.div_add_mod j k
  rw [show o + j = o + j / k * k + j % k by omega, h.get _ hd _ _ (List.getElem?_eq_getElem hl)]
  rfl
/-- a row of one's own, read as such -/
theorem rowr_of_own (hk : ∀ x, (enc x).length = k) (z : α) {B q cap : Nat} {W : List α} (h : w.ownsRow B t k (.slice (some ⟨q, 0, none⟩) W.length cap) W.length (cellsG enc W)) : RowR k enc t w q 0 W.length cap (fun i => W.getD i z) := by
  rcases h.2 with ⟨h0, _⟩ | ⟨g, c, cur, e, _, hh, hn, _, hsz, htk⟩
  · cases h0
  · injection e with e1 _ e3
    injection e1 with e1
    injection e1 with e1 _ _
    subst e1 e3
    refine ⟨⟨cur, hh, by rw [hsz]; omega, fun i hi j u hu => ?_⟩, hn⟩
    have h1 := cellsG_at hk z W i j u hi hu
    have hj : j < k := by have := (List.getElem?_eq_some_iff.1 hu).1; rwa [hk] at this
    have := mul_step (k := k) hi
    rw [← htk, List.getElem?_take_of_lt (by omega)] at h1
    rw [Nat.zero_add]
    simpa using h1
theorem own_of_rowr (hk : ∀ x, (enc x).length = k) (z : α) {B q cap : Nat} {W : List α} (h : RowR k enc t w q 0 W.length cap (fun i => W.getD i z)) (hB : B ≤ q) (hcap : cap ≤ maxLen) : w.ownsRow B t k (.slice (some ⟨q, 0, none⟩) W.length cap) W.length (cellsG enc W) := by
  obtain ⟨cur, hh, hs, hc⟩ := h.heap
  refine ⟨cellsG_len hk W, Or.inr ⟨q, cap, cur, rfl, hB, hh, h.room, hcap, by rw [hs]; omega, ?_⟩⟩
  apply List.ext_getElem?
  intro m
  by_cases hm : m < W.length * k
  · have hl : m < (cellsG enc W).length := by rw [cellsG_len hk]; exact hm
    obtain ⟨i, j, hi, e, hu⟩ := cellsG_of hk z W m _ (List.getElem?_eq_getElem hl)
    have h1 := hc i hi j _ hu
    rw [Nat.zero_add, ← e] at h1
    rw [List.getElem?_take_of_lt hm, Array.getElem?_toList, h1, List.getElem?_eq_getElem hl]
  · rw [List.getElem?_take_eq_none (by omega), List.getElem?_eq_none (by rw [cellsG_len hk]; omega)]
/-- what stays of the first j -/
def delG (W : List α) (p : α → Bool) (j : Nat) : List α := (W.take j).filter fun r => !p r
theorem delG_succ (z : α) (W : List α) (p : α → Bool) (j : Nat) (hj : j < W.length) : delG W p (j + 1) = if p (W.getD j z) = true then delG W p j else delG W p j ++ [W.getD j z] := by
  unfold delG
  rw [List.take_add_one, List.getD_eq_getElem?_getD, List.getElem?_eq_getElem hj, List.filter_append]
  simp only [Option.toList_some, Option.getD_some]
  cases h : p W[j] <;> simp [h]
theorem delG_le (W : List α) (p : α → Bool) (j : Nat) : (delG W p j).length ≤ j := by
  have := List.length_filter_le (fun r => !p r) (W.take j)
  rw [List.length_take] at this
  unfold delG; omega
theorem delG_all (W : List α) (p : α → Bool) : delG W p W.length = W.filter fun r => !p r := by unfold delG; rw [List.take_length]
/-- the row, behind the first j -/
def delF (z : α) (W : List α) (p : α → Bool) (j i : Nat) : α := if i < (delG W p j).length then (delG W p j).getD i z else W.getD i z
theorem delG_skip (z : α) (W : List α) (p : α → Bool) (j : Nat) (hj : j < W.length) (h : p (W.getD j z) = true) : delG W p (j + 1) = delG W p j := by rw [delG_succ z W p j hj, if_pos h]
theorem delF_put (z : α) (W : List α) (p : α → Bool) (j : Nat) (hj : j < W.length) (h : p (W.getD j z) = false) (i : Nat) : put (delF z W p j) (delG W p j).length (W.getD j z) i = delF z W p (j + 1) i := by
  have e : delG W p (j + 1) = delG W p j ++ [W.getD j z] := by rw [delG_succ z W p j hj, if_neg (by rw [h]; decide)]
  show (if i = (delG W p j).length then W.getD j z else delF z W p j i) = delF z W p (j + 1) i
  unfold delF
  rw [e, List.length_append, List.length_singleton]
  by_cases h1 : i = (delG W p j).length
  · subst h1
    rw [if_pos rfl, if_pos (by omega)]
    simp [List.getD]
  · rw [if_neg h1]
    by_cases h2 : i < (delG W p j).length
    · rw [if_pos h2, if_pos (by omega)]
      simp [List.getD, List.getElem?_append_left h2]
    · rw [if_neg h2, if_neg (by omega)]
theorem delG_lt (z : α) (W : List α) (p : α → Bool) (i : Nat) (hi : i < W.length) (h : p (W.getD i z) = true) : ∀ j, i < j → j ≤ W.length → (delG W p j).length < j
  | 0, h0, _ => by omega
  | j + 1, h0, hl => by
    by_cases e : j = i
    · subst e; rw [delG_skip z W p j hi h]; have := delG_le W p j; omega
    · have := delG_lt z W p i hi h j (by omega) (by omega)
      rw [delG_succ z W p j (by omega)]
      split
      · omega
      · rw [List.length_append, List.length_singleton]; omega
theorem delG_none (z : α) (W : List α) (p : α → Bool) (i : Nat) (hi : i ≤ W.length) (h : ∀ j, j < i → p (W.getD j z) = false) : delG W p i = W.take i := by
  unfold delG
  rw [List.filter_eq_self]
  intro r hr
  obtain ⟨j, hj, rfl⟩ := List.getElem_of_mem hr
  rw [List.length_take] at hj
  have := h j (by omega)
  rw [List.getD_eq_getElem?_getD, List.getElem?_eq_getElem (by omega)] at this
  rw [List.getElem_take]
  simpa using this
/-- the first one that goes -/
theorem idxG_first (z : α) (W : List α) (p : α → Bool) : (idxI W p = -1 ∧ (W.filter fun r => !p r) = W) ∨ ∃ i : Nat, idxI W p = (i : Int) ∧ i < W.length ∧ p (W.getD i z) = true ∧ ∀ j, j < i → p (W.getD j z) = false := by
  unfold idxI
  cases h : W.findIdx? p with
  | none =>
    refine Or.inl ⟨rfl, ?_⟩
    have := List.findIdx?_eq_none_iff.1 h
    rw [List.filter_eq_self]
    exact fun r hr => by simp [this r hr]
  | some i =>
    obtain ⟨h1, h2, h3⟩ := List.findIdx?_eq_some_iff_getElem.1 h
    refine Or.inr ⟨i, rfl, h1, ?_, fun j hj => ?_⟩
    · rw [List.getD_eq_getElem?_getD, List.getElem?_eq_getElem h1]; exact h2
    · rw [List.getD_eq_getElem?_getD, List.getElem?_eq_getElem (by omega)]; simpa using h3 j hj
end
end QU
end
section
open Go Go.RowKit
namespace TA
open QU RR FF JJ CC MM WW BB
/-- a vote of the code: its view, its block, its signature with the tags' slice -/
abbrev Vx := Int × ByteArray × Sg
def vx0 : Vx := (0, ⟨#[]⟩, s0)
def encX (x : Vx) : List Value := [.int .i64 x.1, .string x.2.1, .int .i64 x.2.2.1, tvS x.2.2]
def vqX (x : Vx) : Value := .agg #[.int .i64 x.1, .string x.2.1, .int .i64 x.2.2.1, tvS x.2.2]
def nude (x : Vx) : Vt := (x.1, x.2.1, x.2.2.1, x.2.2.2.2)
theorem encX_len (x : Vx) : (encX x).length = 4 := rfl
theorem getD_memX {α : Type} {l : List α} {i : Nat} {d : α} (h : i < l.length) : l.getD i d ∈ l := by
  rw [List.getD_eq_getElem?_getD, List.getElem?_eq_getElem h]; exact List.getElem_mem h
/-- the signatures of a view and a block, with their slices -/
def sigsX (L : List Vx) (v : Int) (k : ByteArray) : List Sg := (L.filter fun x => decide (x.1 = v ∧ x.2.1 = k)).map fun x => x.2.2
theorem sigsX_bare (L : List Vx) (v : Int) (k : ByteArray) : (sigsX L v k).map bare = sigsT (L.map nude) v k := by
  unfold sigsX sigsT
  rw [List.filter_map, List.map_map, List.map_map]
  rfl
theorem sigsX_len (L : List Vx) (v : Int) (k : ByteArray) : (sigsX L v k).length = cntL (L.map nude) v k := by
  rw [← sigsT_len, ← sigsX_bare, List.length_map]
theorem sigsX_succ (L : List Vx) (v : Int) (k : ByteArray) (i : Nat) (h : i < L.length) : sigsX (L.take (i + 1)) v k = if (L.getD i vx0).1 = v ∧ (L.getD i vx0).2.1 = k then sigsX (L.take i) v k ++ [(L.getD i vx0).2.2] else sigsX (L.take i) v k := by
  unfold sigsX
  rw [List.take_add_one, List.getElem?_eq_getElem h, List.getD_eq_getElem?_getD, List.getElem?_eq_getElem h, List.filter_append, List.map_append]
  simp only [Option.toList_some, Option.getD_some, List.filter_cons, List.filter_nil]
  by_cases hc : L[i].1 = v ∧ L[i].2.1 = k
  · rw [if_pos hc, if_pos (decide_eq_true hc)]; rfl
  · rw [if_neg hc, if_neg (by simpa using hc)]; simp
theorem sigsX_le (L : List Vx) (v : Int) (k : ByteArray) (i : Nat) : (sigsX (L.take i) v k).length ≤ L.length := by
  unfold sigsX
  rw [List.length_map]
  exact Nat.le_trans (List.length_filter_le _ _) (by rw [List.length_take]; omega)
theorem sigsX_sub (L : List Vx) (v : Int) (k : ByteArray) : ∀ y ∈ sigsX L v k, ∃ x ∈ L, x.2.2 = y := by
  intro y hy
  obtain ⟨x, hx, rfl⟩ := List.mem_map.1 hy
  exact ⟨x, (List.mem_filter.1 hx).1, rfl⟩
theorem cellsS_snoc (L : List Sg) (x : Sg) : cellsS (L ++ [x]) = cellsS L ++ encS x := by unfold cellsS; rw [List.map_append, List.flatten_append]; simp
/-- a signature whose slice lies as told, in blocks that meet K -/
def TagIn (K : Nat → Prop) (w : World) (x : Sg) : Prop := StrsAt w (tvS x) x.2.2 ∧ ∀ c, (tvS x).ownBlock = some c → K c
theorem TagIn.keep {K : Nat → Prop} {w w' : World} {x : Sg} (h : TagIn K w x) (hk : Keeps K w w') : TagIn K w' x := by
  refine ⟨?_, h.2⟩
  obtain ⟨⟨a0, cap, e, h1⟩, h2⟩ := h
  refine ⟨a0, cap, e, h1.imp id fun ⟨b, off, e1, hl, hc⟩ => ⟨b, off, e1, Nat.lt_of_lt_of_le hl hk.b0.size, fun i hi => ?_⟩⟩
  have hK : K b := h2 b (by rw [e, e1]; rfl)
  exact (World.cell?_of_block (w := w) (a := ⟨b, off + i, none⟩) (hk.block b hK hl)).trans (hc i hi)
theorem TagIn.mono {K K' : Nat → Prop} {w : World} {x : Sg} (h : TagIn K w x) (hK : ∀ b, K b → K' b) : TagIn K' w x := ⟨h.1, fun c hc => hK c (h.2 c hc)⟩
theorem tagIn_lt {w : World} {v : Value} {l : List ByteArray} (h : StrsAt w v l) (hl : l ≠ []) : ∀ c, v.ownBlock = some c → c < w.heap.size := by
  obtain ⟨a0, cap, rfl, h | ⟨b, off, rfl, hb, _⟩⟩ := h
  · exact absurd h hl
  · intro c hc; cases hc; exact hb
/-- a tally's own blocks -/
def OwnT (g : Nat) (wv : Value) (K : Nat → Prop) (b : Nat) : Prop := b = g ∨ wv.ownBlock = some b ∨ K b
/-- five cells -/
def taX (T : Ta) (wv : Value) : Nat → Value := rowL [.string T.seed, .int .i64 T.node, .int .i64 T.n, .int .i64 T.under, wv]
/-- the code's tally in block g: the votes L in the row wv, their tags in blocks that meet K -/
structure TqM (tt tv : TypeId) (w : World) (g : Nat) (T : Ta) (L : List Vx) (wv : Value) (K : Nat → Prop) : Prop where
  blk : TBlk tt w g 5 (taX T wv)
  row : w.ownsRow 0 tv 4 wv L.length (cellsG encX L)
  tags : ∀ x ∈ L, TagIn K w x.2.2
  lt : ∀ b, K b → b < w.heap.size
  kg : ¬ K g
  kr : ∀ b, wv.ownBlock = some b → ¬ K b
  gr : wv.ownBlock ≠ some g
  is : L.map nude = T.votes
section
variable {tt tv : TypeId} {w w' : World} {g : Nat} {T : Ta} {L : List Vx} {wv : Value} {K : Nat → Prop}
theorem TqM.keep (h : TqM tt tv w g T L wv K) (hk : Keeps (OwnT g wv K) w w') : TqM tt tv w' g T L wv K :=
  ⟨(hk.block g (.inl rfl) h.blk.lt).trans h.blk, row_keep h.row fun c hc => hk.block c (.inr (.inl hc)) (h.row.lt c hc).2, fun x hx => (h.tags x hx).keep (hk.sub fun _ hb _ => .inr (.inr hb)), fun b hb => Nat.lt_of_lt_of_le (h.lt b hb) hk.b0.size, h.kg, h.kr, h.gr, h.is⟩
theorem TqM.on (h : TqM tt tv w g T L wv K) (hb : Below w.heap.size w w') : TqM tt tv w' g T L wv K := h.keep (Keeps.of hb)
theorem TqM.ownL (h : TqM tt tv w g T L wv K) : ∀ b, OwnT g wv K b → b < w.heap.size := by
  rintro b (rfl | hb | hb)
  · exact h.blk.lt
  · exact (h.row.lt b hb).2
  · exact h.lt b hb
theorem TqM.cells (h : TqM tt tv w g T L wv K) : w.cell? ⟨g, 0, none⟩ = some (.string T.seed) ∧ w.cell? ⟨g, 1, none⟩ = some (.int .i64 T.node) ∧ w.cell? ⟨g, 2, none⟩ = some (.int .i64 T.n) ∧ w.cell? ⟨g, 3, none⟩ = some (.int .i64 T.under) ∧ w.cell? ⟨g, 4, none⟩ = some wv :=
  ⟨h.blk.blk.get 0 (by omega), h.blk.blk.get 1 (by omega), h.blk.blk.get 2 (by omega), h.blk.blk.get 3 (by omega), h.blk.blk.get 4 (by omega)⟩
theorem TqM.shape (h : TqM tt tv w g T L wv K) : ∃ a c, wv = .slice a L.length c := by
  rcases h.row.2 with ⟨rfl, h0⟩ | ⟨q, cap, cur, rfl, _⟩
  · exact ⟨none, 0, by rw [h0]⟩
  · exact ⟨_, _, rfl⟩
theorem TqM.len (h : TqM tt tv w g T L wv K) : L.length = T.votes.length := by rw [← h.is, List.length_map]
/-- a vote's cells -/
theorem TqM.at (h : TqM tt tv w g T L wv K) (i : Nat) (hi : i < L.length) : ∃ q cap, wv = .slice (some ⟨q, 0, none⟩) L.length cap ∧ q < w.heap.size ∧ ∀ wx : World, wx.heap[q]? = w.heap[q]? → wx.cell? ⟨q, i * 4, none⟩ = some (.int .i64 (L.getD i vx0).1) ∧ wx.cell? ⟨q, i * 4 + 1, none⟩ = some (.string (L.getD i vx0).2.1) ∧ wx.cell? ⟨q, i * 4 + 2, none⟩ = some (.int .i64 (L.getD i vx0).2.2.1) ∧ wx.cell? ⟨q, i * 4 + 3, none⟩ = some (tvS (L.getD i vx0).2.2) := by
  rcases h.row.2 with ⟨_, h0⟩ | ⟨q, cap, cur, rfl, _⟩
  · omega
  · have hr := rowr_of_own (t := tv) encX_len vx0 h.row
    refine ⟨q, cap, rfl, hr.lt, fun wx hx => ?_⟩
    have hr := hr.on hx
    have key : ∀ j u, (encX (L.getD i vx0))[j]? = some u → wx.cell? ⟨q, i * 4 + j, none⟩ = some u := fun j u hu => by
      have := hr.get i hi j u hu
      rwa [Nat.zero_add] at this
    exact ⟨key 0 _ rfl, key 1 _ rfl, key 2 _ rfl, key 3 _ rfl⟩
end
end TA
end
section
open Go Go.RowKit
namespace TA
open QU ZZ RR FF JJ CC MM WW BB
theorem vx_at {w w' : World} {b off : Nat} {O : List Vx} (hb : Below w.heap.size w w') (hl : b < w.heap.size) (hc : ∀ i, i < O.length → ∀ j u, (encX (O.getD i vx0))[j]? = some u → w.cell? ⟨b, off + i * 4 + j, none⟩ = some u) (i : Nat) (hi : i < O.length) :
    w'.cell? ⟨b, off + i * 4, none⟩ = some (.int .i64 (O.getD i vx0).1) ∧ w'.cell? ⟨b, off + i * 4 + 1, none⟩ = some (.string (O.getD i vx0).2.1) ∧ w'.cell? ⟨b, off + i * 4 + 2, none⟩ = some (.int .i64 (O.getD i vx0).2.2.1) ∧ w'.cell? ⟨b, off + i * 4 + 3, none⟩ = some (tvS (O.getD i vx0).2.2) :=
  ⟨(hb.cell (p := ⟨b, off + i * 4, none⟩) hl).trans (hc i hi 0 _ rfl), (hb.cell (p := ⟨b, off + i * 4 + 1, none⟩) hl).trans (hc i hi 1 _ rfl), (hb.cell (p := ⟨b, off + i * 4 + 2, none⟩) hl).trans (hc i hi 2 _ rfl), (hb.cell (p := ⟨b, off + i * 4 + 3, none⟩) hl).trans (hc i hi 3 _ rfl)⟩
end TA
namespace Go.Proofs.YtegkhhegapnkpaaDoor
open TA QU ZZ RR FF JJ CC MM WW BB
set_option maxRecDepth 100000 in
set_option maxHeartbeats 4000000 in
theorem tifun_any (O : List Vx) (v fv : Value) (p : Vx → Bool) (w : World) (hv : GRow 4 encX vx0 (fun _ => True) w v O) (hl : O.length ≤ 1000)
    (hp : ∀ i (_ : i < O.length) (wr : World), Below w.heap.size w wr → CallsW Tryd.prog fv #[vqX (O.getD i vx0)] wr fun e w' => e = .returned (.bool (p (O.getD i vx0))) ∧ Below wr.heap.size wr w') :
    Calls Tryd.prog 139 #[v, fv] w fun e w' => e = .returned (.int .i64 (idxI O p)) ∧ Below w.heap.size w w' := by
  have HV := Lib.hid hv
  have HL := Lib.hid hl
  have HP := Lib.hid hp
  obtain ⟨a0, cap, rfl, hx⟩ := hv
  have HX := Lib.hid hx
  obtain ⟨X, hX⟩ : ∃ X, idxI O p = X := ⟨_, rfl⟩
  have HTX := Lib.hid hX
  rw [hX]
  clear hl hX hp hx
  go_enter Tryd.func139, Tryd.ntmps139
  go_wp2_with fail
  go_loopw [8] (fun y wr => ∃ i : Nat, i ≤ O.length ∧ y = .int .i64 (i : Int) ∧ (∀ j, j < i → p (O.getD j vx0) = false) ∧ Below w.heap.size w wr) (fun y _ => O.length - (RowKit.intOf y).toNat)
  case atStart => exact ⟨0, Nat.zero_le _, rfl, fun j hj => absurd hj (Nat.not_lt_zero _), Below.refl _ _⟩
  case round =>
    obtain ⟨i, hi, rfl, hall, hbr⟩ := hrel
    have HALL := Lib.hid hall
    have HBR := Lib.hid hbr
    have i0 : (0 : Int) ≤ (i : Int) := by omega
    have ib : (i : Int) ≤ 1000 := by have := HL.out; omega
    clear hall
    by_cases hlt : i < O.length
    · have hlt' : (i : Int) < (O.length : Int) := by omega
      have HLT := Lib.hid hlt
      obtain ⟨qb, qoff, rfl, _, hqb, hcell⟩ : ∃ b off, a0 = some ⟨b, off, none⟩ ∧ True ∧ b < w.heap.size ∧ _ := by
        rcases HX.out with h | h
        · rw [h] at hlt; simp at hlt
        · exact h
      obtain ⟨q0, q1, q2, q3⟩ := vx_at hbr hqb hcell i hlt
      obtain ⟨y, hy⟩ : ∃ y, O.getD i vx0 = y := ⟨_, rfl⟩
      have HY := Lib.hid hy
      have HQ := Lib.hid (HP.out i hlt)
      rw [hy] at q0 q1 q2 q3 HQ
      obtain ⟨xv, xk, xf, ⟨xa, xc⟩, xt⟩ := y
      rw [show tvS (xf, (xa, xc), xt) = .slice xa xt.length xc from rfl] at q3
      clear hi hlt hy hbr hqb hcell
      go_wp2_with (with_reducible refine hold_callv rfl rfl ?_)
      refine wpl_callw (v := fv) (args := #[vqX (xv, xk, xf, (xa, xc), xt)]) _ rfl rfl rfl (by simp [Act.eval]; rfl) (HQ.out wr HBR.out) (fun e w' h => ⟨_, h.1⟩) ?_
      rintro u w3 ⟨hu, hb3⟩
      injection hu with hu
      subst hu
      have HB3 := Lib.hid (HBR.out.trans (hb3.mono HBR.out.size))
      clear hb3 HQ
      rcases hpp : p (xv, xk, xf, (xa, xc), xt) with _ | _
      · have HPP := Lib.hid hpp
        clear hpp
        go_wp2_with fail
        go_roundw
        case rel => exact ⟨i + 1, by have := HLT.out; omega, by go_num, fun j hj => if h : j = i then by subst h; rw [HY.out]; exact HPP.out else HALL.out j (by omega), HB3.out⟩
        case measure => have := HLT.out; simp [RowKit.intOf]; omega
      · have HPP := Lib.hid hpp
        clear hpp
        go_wp2_with fail
        go_ret
        refine ⟨?_, HB3.out⟩
        rw [← HTX.out, idx_hit i HLT.out (fun j hj => by rw [← getD_at (d := vx0)]; exact HALL.out j hj) (by rw [← getD_at (d := vx0) HLT.out, HY.out]; exact HPP.out)]
        rfl
    · obtain rfl : i = O.length := by omega
      have hlt' : ¬ (O.length : Int) < (O.length : Int) := by omega
      clear hi hlt
      go_wp2_with fail
      go_ret
      refine ⟨?_, HBR.out⟩
      rw [← HTX.out, idx_none (fun j hj => by rw [← getD_at (d := vx0)]; exact HALL.out j hj)]
      rfl
set_option maxRecDepth 100000 in
set_option maxHeartbeats 4000000 in
theorem tcfun_any (O : List Vx) (v fv : Value) (p : Vx → Bool) (b : Bool) (hb : O.any p = b) (w : World) (hv : GRow 4 encX vx0 (fun _ => True) w v O) (hl : O.length ≤ 1000)
    (hp : ∀ i (_ : i < O.length) (wr : World), Below w.heap.size w wr → CallsW Tryd.prog fv #[vqX (O.getD i vx0)] wr fun e w' => e = .returned (.bool (p (O.getD i vx0))) ∧ Below wr.heap.size wr w') :
    Calls Tryd.prog 168 #[v, fv] w fun e w' => e = .returned (.bool b) ∧ Below w.heap.size w w' := by
  have HV := Lib.hid hv
  have HL := Lib.hid hl
  have HP := Lib.hid hp
  have HB := Lib.hid hb
  obtain ⟨a0, cap, rfl, _⟩ := hv
  clear hl hb hp
  go_enter Tryd.func168, Tryd.ntmps168
  go_wp2_with fail
  refine (tifun_any O _ fv p w HV.out HL.out HP.out).mono ?_
  rintro e w2 ⟨rfl, hb2⟩
  go_wp2_with fail
  go_ret
  refine ⟨?_, hb2⟩
  rw [← HB.out, ← idx_any]; rfl
end Go.Proofs.YtegkhhegapnkpaaDoor
end
section
open Go Go.RowKit
namespace FF
open WW BB MM
end FF
namespace Go.Proofs.YtegkhhegapnkpaaDoor
open FF JJ CC MM WW BB
section
variable {B : Nat} {w w' w1 : World} {g : Nat} {F : Fo} {rt : ByteArray} {mv ov : Value} {N O : List Iv} {C : Nat → Prop}
end
/-- between two rounds -/
structure AdR (B : Nat) (w1 : World) (g : Nat) (F : Fo) (rt : ByteArray) (mv ov : Value) (C : Nat → Prop) (q : Nat) (m : Nat) (F' : Fo) (mv' ov' : Value) (N' O' : List Iv) (wr : World) : Prop where
  cf : CFs B wr g F' rt mv' ov' N' O' C
  len : F'.orph.length ≤ m
  eq : adoptF 10 F = adoptF m F'
  height : F'.height = F.height
  keeps : Keeps (fun b => b < w1.heap.size ∧ b ≠ g ∧ mapBlk mv ≠ some b ∧ ov.ownBlock ≠ some b) w1 wr
  mnew : ∀ b, mapBlk mv' = some b → mapBlk mv = some b ∨ w1.heap.size ≤ b
  onew : ∀ b, ov'.ownBlock = some b → ov.ownBlock = some b
  box : wr.cell? ⟨q, 0, none⟩ = some (.pointer (some ⟨g, 0, none⟩))
  lt : q < wr.heap.size
  tabs : Tabs wr
theorem AdR.on {B : Nat} {w1 : World} {g : Nat} {F : Fo} {rt : ByteArray} {mv ov : Value} {C : Nat → Prop} {q m : Nat} {F' : Fo} {mv' ov' : Value} {N' O' : List Iv} {wr w2 : World} (h : AdR B w1 g F rt mv ov C q m F' mv' ov' N' O' wr) (hb : Below wr.heap.size wr w2) : AdR B w1 g F rt mv ov C q m F' mv' ov' N' O' w2 :=
  ⟨h.cf.on hb, h.len, h.eq, h.height, h.keeps.trans (Keeps.of hb), h.mnew, h.onew, (hb.cell (p := ⟨q, 0, none⟩) h.lt).trans h.box, Nat.lt_of_lt_of_le h.lt hb.size, tabs_on h.tabs hb⟩
end Go.Proofs.YtegkhhegapnkpaaDoor
end
section
open Go Go.RowKit
namespace FF
open JJ CC WW BB MM
end FF
namespace Go.Proofs.YtegkhhegapnkpaaDoor
open FF JJ CC MM WW BB
section
variable {B : Nat} {w w' w1 : World} {g : Nat} {F : Fo} {rt : ByteArray} {mv ov : Value} {N O : List Iv} {C : Nat → Prop}
end
/-- what Put leaves -/
def PutAns (B : Nat) (w : World) (g : Nat) (rt : ByteArray) (mv ov : Value) (C : Nat → Prop) (R : Fo × Int) (e : Ending) (w' : World) : Prop :=
  e = .returned (.int .i64 R.2) ∧ ∃ mv' ov' N' O' C', CFs B w' g R.1 rt mv' ov' N' O' C' ∧ Keeps (fun b => ¬ MineB g mv ov C b) w w' ∧ (∀ b, MineB g mv' ov' C' b → MineB g mv ov C b ∨ w.heap.size ≤ b)
theorem PutAns.same {B : Nat} {w w' : World} {g : Nat} {F : Fo} {rt : ByteArray} {mv ov : Value} {N O : List Iv} {C : Nat → Prop} {n : Int} (h : CFs B w g F rt mv ov N O C) (hb : Below w.heap.size w w') : PutAns B w g rt mv ov C (F, n) (.returned (.int .i64 n)) w' :=
  ⟨rfl, mv, ov, N, O, C, h.on hb, Keeps.of hb, fun _ h => Or.inl h⟩
end Go.Proofs.YtegkhhegapnkpaaDoor
end
section
open Go Go.RowKit
namespace TA
open QU RR FF JJ CC MM WW BB
theorem sg_of_row {w : World} {B : Nat} {e : TypeId} {v : Value} {L : List Sg} (h : w.ownsRow B e 2 v L.length (cellsS L)) (ht : ∀ x ∈ L, StrsAt w (tvS x) x.2.2) : SgAt w v L := by
  obtain ⟨a0, cap, rfl, _, h | ⟨b, o, rfl, _, h⟩⟩ := sgs_of_own h
  · exact ⟨a0, cap, rfl, .inl h⟩
  · exact ⟨_, cap, rfl, .inr ⟨b, o, rfl, h.lt, fun i hi => ⟨h.at0 i hi, h.at1 i hi, ht _ (getD_memX hi)⟩⟩⟩
theorem encS_one (x : Sg) : ∀ u ∈ encS x, u.oneCell' = true := by
  intro u hu
  simp only [encS, tvS, List.mem_cons, List.not_mem_nil, or_false] at hu
  rcases hu with rfl | rfl <;> rfl
end TA
namespace Go.Proofs.YtegkhhegapnkpaaDoor
open TA QU RR FF JJ CC MM WW BB
/-- the code's tally is T, by the blocks O -/
def At14 (O : Nat → Prop) (w : World) (g : Nat) (T : Ta) : Prop := ∃ L wv K, TqM 166 169 w g T L wv K ∧ ∀ b, O b ↔ OwnT g wv K b
theorem at14_keep {O : Nat → Prop} {w w' : World} {g : Nat} {T : Ta} (h : At14 O w g T) (hk : Keeps O w w') : At14 O w' g T := by
  obtain ⟨L, wv, K, h1, h2⟩ := h
  exact ⟨L, wv, K, h1.keep (hk.sub fun b hb _ => (h2 b).2 hb), h2⟩
theorem at14_lt {O : Nat → Prop} {w : World} {g : Nat} {T : Ta} (h : At14 O w g T) : ∀ b, O b → b < w.heap.size := by
  obtain ⟨L, wv, K, h1, h2⟩ := h
  exact fun b hb => h1.ownL b ((h2 b).1 hb)
set_option maxRecDepth 100000 in
set_option maxHeartbeats 1000000 in
theorem new14 (w : World) (s : ByteArray) (d n : Int) : Calls Tryd.prog 54 #[.string s, .int .i64 d, .int .i64 n] w fun e w' => ∃ g O, e = .returned (.pointer (some ⟨g, 0, none⟩)) ∧ At14 O w' g (newT s d n) ∧ (∀ b, O b → w.heap.size ≤ b) ∧ Below w.heap.size w w' := by
  go_enter Tryd.func54, Tryd.ntmps54
  go_wp2_with fail
  go_ret
  refine ⟨w.heap.size, OwnT w.heap.size (.slice none 0 0) (fun _ => False), rfl, ⟨[], .slice none 0 0, fun _ => False, ⟨?_, World.ownsRow_nil _ _ _ _, fun x hx => absurd hx List.not_mem_nil, fun _ h => absurd h id, id, fun _ _ h => h, (fun h => by cases h), rfl⟩, fun _ => Iff.rfl⟩, ?_, (Below.refl _ _).alloc (Nat.le_refl _) _⟩
  · exact TBlk.new' w 5 w.heap.size _ _ _ rfl rfl
  · rintro b (rfl | h | h)
    · exact Nat.le_refl _
    · cases h
    · exact h.elim
set_option maxRecDepth 100000 in
set_option maxHeartbeats 1000000 in
theorem len14 (O : Nat → Prop) (w : World) (g : Nat) (T : Ta) (h : At14 O w g T) : Calls Tryd.prog 61 #[.pointer (some ⟨g, 0, none⟩)] w fun e w' => e = .returned (.int .i64 (T.votes.length : Int)) ∧ Below w.heap.size w w' := by
  obtain ⟨L, wv, K, h1, _⟩ := h
  obtain ⟨_, _, _, _, c4⟩ := h1.cells
  have HL := Lib.hid h1.len
  obtain ⟨a, c, rfl⟩ := h1.shape
  clear h1
  go_enter Tryd.func61, Tryd.ntmps61
  go_wp2_with fail
  go_ret
  exact ⟨by rw [HL.out]; rfl, Below.refl _ _⟩
theorem und_sigsT : Tryd.prog.underlying 22 = some (.slice 98) := by kernel_rfl
theorem info_sigT : (Tryd.prog.info? 98).map (fun i => (i.zero, i.size, i.bytes)) = some (some (.agg #[.int .i64 0, .slice none 0 0]), 2, 32) := by kernel_rfl
set_option maxRecDepth 100000 in
set_option maxHeartbeats 8000000 in
theorem sigs14 {w : World} {g : Nat} {T : Ta} {L : List Vx} {wv : Value} {K : Nat → Prop} (h : TqM 166 169 w g T L wv K) (hl : L.length ≤ 1000) (v : Int) (k : ByteArray) :
    Calls Tryd.prog 111 #[.pointer (some ⟨g, 0, none⟩), .int .i64 v, .string k] w fun e w' => ∃ a c, e = .returned (.slice a (sigsX L v k).length c) ∧ CC.SgAt w' (.slice a (sigsX L v k).length c) (sigsX L v k) ∧ Below w.heap.size w w' := by
  have H := Lib.hid h
  have HL := Lib.hid hl
  obtain ⟨_, _, _, _, c4⟩ := h.cells
  obtain ⟨wa, wc, hwv⟩ := h.shape
  have HWV := Lib.hid hwv
  rw [hwv] at c4
  clear h hl hwv
  go_enter Tryd.func111, Tryd.ntmps111
  go_wp2_with fail
  clear c4
  go_loopw [7, 15] (fun x y wr => ∃ i : Nat, i ≤ L.length ∧ y = .int .i64 (i : Int) ∧ ∃ a c, x = .slice a (sigsX (L.take i) v k).length c ∧ wr.ownsRow w.heap.size 98 2 x (sigsX (L.take i) v k).length (cellsS (sigsX (L.take i) v k)) ∧ Below w.heap.size w wr) (fun _ y _ => L.length - (RowKit.intOf y).toNat)
  case atStart => exact ⟨0, Nat.zero_le _, rfl, none, 0, rfl, World.ownsRow_nil _ _ _ _, Below.refl _ _⟩
  case round =>
    obtain ⟨i, hi, rfl, xa, xc, rfl, hrow, hbr⟩ := hrel
    have HOL := Lib.hid (show (sigsX (L.take i) v k).length ≤ 1000 from Nat.le_trans (sigsX_le L v k i) HL.out)
    obtain ⟨out, hout⟩ : ∃ out, sigsX (L.take i) v k = out := ⟨_, rfl⟩
    have HOUT := Lib.hid hout
    rw [hout] at hrow HOL ⊢
    have HROW := Lib.hid hrow
    have HBR := Lib.hid hbr
    have i0 : (0 : Int) ≤ (i : Int) := by omega
    have ib : (i : Int) ≤ 1000 := by have := HL.out; omega
    clear hrow hbr hout
    by_cases hlt : i < L.length
    · have hlt' : (i : Int) < (L.length : Int) := by omega
      have HLT := Lib.hid hlt
      have HSU := Lib.hid (sigsX_succ L v k i hlt)
      obtain ⟨q, cap, he, hq, hc⟩ := H.out.at i hlt
      rw [HWV.out] at he
      injection he with e1 _ e3
      subst e1 e3
      obtain ⟨p0, p1, p2, p3⟩ := hc wr (HBR.out.block q hq)
      obtain ⟨x, hx⟩ : ∃ x, L.getD i vx0 = x := ⟨_, rfl⟩
      rw [hx] at p0 p1 p2 p3
      rw [HOUT.out, hx] at HSU
      obtain ⟨xv, xk, xf, ⟨ta, tc⟩, xt⟩ := x
      replace p0 : wr.cell? ⟨q, i * 4, none⟩ = some (.int .i64 xv) := p0
      replace p1 : wr.cell? ⟨q, i * 4 + 1, none⟩ = some (.string xk) := p1
      replace p2 : wr.cell? ⟨q, i * 4 + 2, none⟩ = some (.int .i64 xf) := p2
      replace p3 : wr.cell? ⟨q, i * 4 + 3, none⟩ = some (.slice ta xt.length tc) := p3
      have X1 := Lib.hid ((Below.refl wr.heap.size wr).alloc (Nat.le_refl _) (.cells #[.int .i64 xv, .string xk, .int .i64 xf, .slice ta xt.length tc] 169))
      have BX := Lib.hid (HBR.out.trans (X1.out.mono HBR.out.size))
      clear hi hlt hc hx hq
      by_cases h1 : xv = v
      · have t1 : (xv == v) = true := by simpa using h1
        by_cases h2 : xk = k
        · have t2 : (xk.toList == k.toList) = true := by rw [h2]; simp
          have HEQ := Lib.hid (show sigsX (L.take (i + 1)) v k = out ++ [(xf, (ta, tc), xt)] by rw [HSU.out, if_pos ⟨h1, h2⟩])
          have RX := Lib.hid (row_keep HROW.out fun c hc => X1.out.block c (HROW.out.lt c hc).2)
          have R1 := Lib.hid (show Blk (wr.alloc (.cells #[.int .i64 xv, .string xk, .int .i64 xf, .slice ta xt.length tc] 169)) wr.heap.size 4 (rowL [.int .i64 xv, .string xk, .int .i64 xf, .slice ta xt.length tc]) from Blk.new' rfl rfl)
          clear h1 h2
          go_upto_region 6 with fail
          obtain ⟨w2, hw2⟩ : ∃ w2, wr.alloc (.cells #[.int .i64 xv, .string xk, .int .i64 xf, .slice ta xt.length tc] 169) = w2 := ⟨_, rfl⟩
          obtain ⟨y, hy⟩ : ∃ y, wr.heap.size = y := ⟨_, rfl⟩
          rw [hw2] at X1 RX R1 BX ⊢
          rw [hy] at R1 ⊢
          clear hw2 hy p0 p1 p2 p3
          have d2 : w2.cell? ⟨y, 2, none⟩ = some (.int .i64 xf) := R1.out.get 2 (by omega)
          have d3 : w2.cell? ⟨y, 3, none⟩ = some (.slice ta xt.length tc) := R1.out.get 3 (by omega)
          have A2 := Lib.hid ((Below.refl w2.heap.size w2).alloc (Nat.le_refl _) (.cells #[.int .i64 xf, .slice ta xt.length tc] 98))
          have RA := Lib.hid (row_keep RX.out fun c hc => A2.out.block c (RX.out.lt c hc).2)
          have BA := Lib.hid (BX.out.trans (A2.out.mono BX.out.size))
          obtain ⟨ti, i1, i2, i3, i4⟩ := info_parts info_sigT
          obtain ⟨u', w6, hrun, hown, hgr, _, _⟩ := run_append_own_at (P := Tryd.prog) (w := w2.alloc (.cells #[.int .i64 xf, .slice ta xt.length tc] 98)) w.heap.size 22 22 98 ti _ 2 32 und_sigsT i1 i2 i3 i4 rfl (by decide) _ out.length (cellsS out) RA.out ⟨w2.heap.size, 0, none⟩ 1 1 (encS (xf, (ta, tc), xt)) rfl (new_at w2 _ (encS (xf, (ta, tc), xt))) (encS_one _) (by have := HOL.out; unfold maxLen; omega) (by have := HOL.out; omega) BA.out.size
          obtain ⟨ua, uc, rfl⟩ := row_shape hown
          have HOW := Lib.hid (show w6.ownsRow w.heap.size 98 2 (.slice ua (out.length + 1) uc) (out ++ [(xf, (ta, tc), xt)]).length (cellsS (out ++ [(xf, (ta, tc), xt)])) by rw [cellsS_snoc, List.length_append]; exact hown)
          have BR6 := Lib.hid (BA.out.grown hgr BA.out.size (fun k hk => (RA.out.lt k hk).1))
          clear hown hgr i1 i2 i3 i4
          go_wp2_with (at_builtin; refine wpl_app_run rfl _ _ _ rfl hrun ?_)
          clear hrun d2 d3
          go_roundw
          case rel => exact ⟨i + 1, by have := HLT.out; omega, by go_num, ua, uc, by rw [HEQ.out, List.length_append]; rfl, by rw [HEQ.out]; exact HOW.out, BR6.out⟩
          case measure => have := HLT.out; simp [RowKit.intOf]; omega
        · have t2 := ba_beq h2
          have HEQ := Lib.hid (show sigsX (L.take (i + 1)) v k = out by rw [HSU.out, if_neg (fun h => h2 h.2)])
          have RX := Lib.hid (row_keep HROW.out fun c hc => X1.out.block c (HROW.out.lt c hc).2)
          clear h1 h2
          go_wp2_with fail
          go_roundw
          case rel => exact ⟨i + 1, by have := HLT.out; omega, by go_num, xa, xc, by rw [HEQ.out], by rw [HEQ.out]; exact RX.out, BX.out⟩
          case measure => have := HLT.out; simp [RowKit.intOf]; omega
      · have t1 : (xv == v) = false := by simpa using h1
        have HEQ := Lib.hid (show sigsX (L.take (i + 1)) v k = out by rw [HSU.out, if_neg (fun h => h1 h.1)])
        have RX := Lib.hid (row_keep HROW.out fun c hc => X1.out.block c (HROW.out.lt c hc).2)
        clear h1
        go_wp2_with fail
        go_roundw
        case rel => exact ⟨i + 1, by have := HLT.out; omega, by go_num, xa, xc, by rw [HEQ.out], by rw [HEQ.out]; exact RX.out, BX.out⟩
        case measure => have := HLT.out; simp [RowKit.intOf]; omega
    · obtain rfl : i = L.length := by omega
      have hlt' : ¬ (L.length : Int) < (L.length : Int) := by omega
      have HFIN := Lib.hid (show sigsX L v k = out by rw [← HOUT.out, List.take_length])
      clear hi hlt
      go_wp2_with fail
      go_ret
      rw [HFIN.out]
      exact ⟨xa, xc, rfl, sg_of_row HROW.out fun x hx => by
        rw [← HFIN.out] at hx
        obtain ⟨y, hy, rfl⟩ := sigsX_sub L v k x hx
        exact (H.out.tags y hy).1.later HBR.out, HBR.out⟩
set_option maxRecDepth 100000 in
set_option maxHeartbeats 1000000 in
theorem count14 (O : Nat → Prop) (w : World) (g : Nat) (T : Ta) (v : Int) (k : ByteArray) (h : At14 O w g T) (hi : InvTa T) : Calls Tryd.prog 62 #[.pointer (some ⟨g, 0, none⟩), .int .i64 v, .string k] w fun e w' => e = .returned (.int .i64 (cntL T.votes v k : Int)) ∧ Below w.heap.size w w' := by
  obtain ⟨L, wv, K, h1, _⟩ := h
  have H := Lib.hid h1
  have HL := Lib.hid (show L.length ≤ 1000 by rw [h1.len]; have := hi.few; omega)
  have HN := Lib.hid (show (sigsX L v k).length = cntL T.votes v k by rw [sigsX_len, h1.is])
  clear h1 hi
  go_enter Tryd.func62, Tryd.ntmps62
  go_wp2_with fail
  refine (sigs14 H.out HL.out v k).mono ?_
  rintro e w2 ⟨a, c, rfl, _, hb2⟩
  go_wp2_with fail
  go_ret
  exact ⟨by rw [HN.out]; rfl, hb2⟩
end Go.Proofs.YtegkhhegapnkpaaDoor
end
section
open Go Go.RowKit
namespace TA
open QU ZZ RR FF JJ CC MM WW BB
theorem had_map (L : List Vx) (v f : Int) : (L.any fun x => decide (x.1 = v) && decide (x.2.2.1 = f)) = hadL (L.map nude) v f := by
  unfold hadL
  rw [List.any_map]
  congr 1
  funext x
  show _ = decide (x.1 = v ∧ x.2.2.1 = f)
  rw [Bool.decide_and]
theorem no4 {s : ByteArray} {d n un v f N4 : Int} {k : ByteArray} {ts : List ByteArray} {V : List Vt} {m : Nat} (hm : m = V.length) (hw : ∀ f t ts, holdsB s d n t f ts = true → N4 = 4 * n) (h : ¬ (m : Int) < N4) : okT ⟨s, d, n, un, V⟩ (v, k, f, ts) = false := by
  cases hh : holdsB s d n (textB v k) f ts with
  | false => exact ok_no2 (T := ⟨s, d, n, un, V⟩) (x := (v, k, f, ts)) hh
  | true =>
    rw [hw _ _ _ hh, hm] at h
    exact ok_no3 (T := ⟨s, d, n, un, V⟩) (x := (v, k, f, ts)) h
theorem TqM.grow {tt tv : TypeId} {w : World} {g : Nat} {T : Ta} {L : List Vx} {wv : Value} {K : Nat → Prop} (h : TqM tt tv w g T L wv K) : GRow 4 encX vx0 (fun _ => True) w wv L := (grow_of_own encX_len vx0 h.row).more fun _ _ => trivial
end TA
namespace Go.Proofs.YtegkhhegapnkpaaDoor
open TA QU ZZ RR FF JJ CC MM WW BB
set_option maxRecDepth 100000 in
set_option maxHeartbeats 2000000 in
theorem own_voted1 : WW.Own Tryd.prog 169 := ⟨_, Tryd.func169, by kernel_rfl, by kernel_rfl⟩
set_option maxRecDepth 100000 in
set_option maxHeartbeats 4000000 in
/-- is this vote the node's, in this view? -/
theorem voted1_any (x : Vx) (v f : Int) (p q : Nat) (w : World) (hp : w.cell? ⟨p, 0, none⟩ = some (.int .i64 v)) (hq : w.cell? ⟨q, 0, none⟩ = some (.int .i64 f)) (hpl : p < w.heap.size) (hql : q < w.heap.size) :
    Calls Tryd.prog 169 #[vqX x, .pointer (some ⟨p, 0, none⟩), .pointer (some ⟨q, 0, none⟩)] w fun e w' => e = .returned (.bool (decide (x.1 = v) && decide (x.2.2.1 = f))) ∧ Below w.heap.size w w' := by
  obtain ⟨xv, xk, xf, ⟨ta, tc⟩, xt⟩ := x
  show Calls Tryd.prog 169 #[.agg #[.int .i64 xv, .string xk, .int .i64 xf, .slice ta xt.length tc], .pointer (some ⟨p, 0, none⟩), .pointer (some ⟨q, 0, none⟩)] w fun e w' => e = .returned (.bool (decide (xv = v) && decide (xf = f))) ∧ Below w.heap.size w w'
  have X1 := Lib.hid ((Below.refl w.heap.size w).alloc (Nat.le_refl _) (.cells #[.int .i64 xv, .string xk, .int .i64 xf, .slice ta xt.length tc] 169))
  have q0 := (X1.out.cell (p := ⟨p, 0, none⟩) hpl).trans hp
  have q1 := (X1.out.cell (p := ⟨q, 0, none⟩) hql).trans hq
  clear hp hq hpl hql
  by_cases h1 : xv = v
  · have t1 : (xv == v) = true := by simpa using h1
    have HR := Lib.hid (show (decide (xv = v) && decide (xf = f)) = decide (xf = f) by rw [decide_eq_true h1, Bool.true_and])
    by_cases h2 : xf = f
    · have t2 : (xf == f) = true := by simpa using h2
      have HF := Lib.hid (decide_eq_true h2)
      clear h1 h2
      go_enter Tryd.func169, Tryd.ntmps169
      go_wp2_with fail
      go_ret
      exact ⟨by rw [HR.out, HF.out]; rfl, X1.out⟩
    · have t2 : (xf == f) = false := by simpa using h2
      have HF := Lib.hid (decide_eq_false h2)
      clear h1 h2
      go_enter Tryd.func169, Tryd.ntmps169
      go_wp2_with fail
      go_ret
      exact ⟨by rw [HR.out, HF.out]; rfl, X1.out⟩
  · have t1 : (xv == v) = false := by simpa using h1
    have HR := Lib.hid (show (decide (xv = v) && decide (xf = f)) = false by rw [decide_eq_false h1, Bool.false_and])
    clear h1
    go_enter Tryd.func169, Tryd.ntmps169
    go_wp2_with fail
    go_ret
    exact ⟨by rw [HR.out]; rfl, X1.out⟩
set_option maxRecDepth 100000 in
set_option maxHeartbeats 4000000 in
theorem voted_any {w : World} {g : Nat} {T : Ta} {L : List Vx} {wv : Value} {K : Nat → Prop} (h : TqM 166 169 w g T L wv K) (hl : L.length ≤ 1000) (v f : Int) (b : Bool) (hb : hadL T.votes v f = b) :
    Calls Tryd.prog 140 #[.pointer (some ⟨g, 0, none⟩), .int .i64 v, .int .i64 f] w fun e w' => e = .returned (.bool b) ∧ Below w.heap.size w w' := by
  have H := Lib.hid h
  have HL := Lib.hid hl
  have HB := Lib.hid (show (L.any fun x => decide (x.1 = v) && decide (x.2.2.1 = f)) = b by rw [had_map, h.is, hb])
  obtain ⟨wa, wc, hwv⟩ := h.shape
  have HWV := Lib.hid hwv
  obtain ⟨p, hp⟩ : ∃ p, w.heap.size = p := ⟨_, rfl⟩
  have X1 := Lib.hid (((Below.refl w.heap.size w).alloc (Nat.le_refl _) (.cells #[.int .i64 v] 3)).alloc (by simp) (.cells #[.int .i64 f] 3))
  have K0 := Lib.hid (show Blk ((w.alloc (.cells #[.int .i64 v] 3)).alloc (.cells #[.int .i64 f] 3)) p 1 (rowL [.int .i64 v]) from (Blk.new' hp.symm (show #[Value.int .i64 v] = row 1 (rowL [.int .i64 v]) from rfl)).alloc _)
  have K1 := Lib.hid (show Blk ((w.alloc (.cells #[.int .i64 v] 3)).alloc (.cells #[.int .i64 f] 3)) (p + 1) 1 (rowL [.int .i64 f]) from Blk.new' (by simp; omega) rfl)
  have HP := Lib.hid hp
  clear h hl hb hwv
  go_enter Tryd.func140, Tryd.ntmps140
  go_upto_region 1 with fail
  rw [HP.out] at X1
  clear hp
  obtain ⟨w1, hw1⟩ : ∃ w1, (w.alloc (.cells #[.int .i64 v] 3)).alloc (.cells #[.int .i64 f] 3) = w1 := ⟨_, rfl⟩
  rw [hw1] at X1 K0 K1 ⊢
  clear hw1
  have H1 := Lib.hid (H.out.on (HP.out ▸ X1.out))
  obtain ⟨_, _, _, _, c4⟩ := H1.out.cells
  rw [HWV.out] at c4
  go_wp2_with fail
  clear c4
  refine (tcfun_any L _ (.func (.func 169) #[] #[.pointer (some ⟨p, 0, none⟩), .pointer (some ⟨p + 1, 0, none⟩)]) _ b HB.out w1 (HWV.out ▸ H1.out.grow) HL.out fun i hi wr hbr => ⟨_, _, _, rfl, own_voted1, voted1_any (L.getD i vx0) v f p (p + 1) wr ((hbr.cell (p := ⟨p, 0, none⟩) K0.out.lt).trans (K0.out.get 0 (by omega))) ((hbr.cell (p := ⟨p + 1, 0, none⟩) K1.out.lt).trans (K1.out.get 0 (by omega))) (Nat.lt_of_lt_of_le K0.out.lt hbr.size) (Nat.lt_of_lt_of_le K1.out.lt hbr.size)⟩).mono ?_
  rintro e w2 ⟨rfl, hb2⟩
  go_wp2_with fail
  go_ret
  have hx1 := X1.out
  rw [← HP.out] at hx1
  exact ⟨rfl, hx1.trans (hb2.mono hx1.size)⟩
set_option maxRecDepth 100000 in
set_option maxHeartbeats 64000000 in
theorem takes_any {w : World} {g : Nat} {T : Ta} {L : List Vx} {wv : Value} {K : Nat → Prop} (h : TqM 166 169 w g T L wv K) (hi : InvTa T) (hT : Tabs w) (x : Vt) (tv : Value) (hv : StrsAt w tv x.2.2.2) (hx : Vote14 T x) (b : Bool) (hb : okT T x = b) :
    Calls Tryd.prog 109 #[.pointer (some ⟨g, 0, none⟩), .int .i64 x.1, .string x.2.1, .agg #[.int .i64 x.2.2.1, tv]] w fun e w' => e = .returned (.bool b) ∧ Below w.heap.size w w' := by
  have H := Lib.hid h
  have HL := Lib.hid (show L.length ≤ 1000 by rw [h.len]; have := hi.few; omega)
  have HLN := Lib.hid h.len
  have HT := Lib.hid hT
  have HV := Lib.hid hv
  have HX := Lib.hid hx
  have HB := Lib.hid hb
  obtain ⟨wa, wc, hwv⟩ := h.shape
  have HWV := Lib.hid hwv
  obtain ⟨v, k, f, ts⟩ := x
  obtain ⟨s, d, n, un, V⟩ := T
  have HVL := Lib.hid (show L.length = V.length from h.len)
  have hN : I64 n := hx.n
  have hN0 : -9223372036854775808 ≤ n := hN.1
  have hN1 : n ≤ 9223372036854775807 := hN.2
  have HK := Lib.hid (show k.size ≤ 1000 from hx.k)
  have HTL := Lib.hid (show ts.length ≤ 1000 from hx.tags)
  have HSS := Lib.hid (show s.size ≤ 1000 from hx.seed)
  obtain ⟨ta, tc, rfl, _⟩ := hv
  show Calls Tryd.prog 109 #[.pointer (some ⟨g, 0, none⟩), .int .i64 v, .string k, .agg #[.int .i64 f, .slice ta ts.length tc]] w fun e w' => e = .returned (.bool b) ∧ Below w.heap.size w w'
  have HVS := Lib.hid (show StrsAt w (.slice ta ts.length tc) ts from HV.out)
  obtain ⟨m, hm⟩ : ∃ m, ts.length = m := ⟨_, rfl⟩
  have HM := Lib.hid hm
  rw [hm] at HVS ⊢
  have X1 := Lib.hid ((Below.refl w.heap.size w).alloc (Nat.le_refl _) (.cells #[.int .i64 f, .slice ta m tc] 98))
  have L1 := Lib.hid (show Blk (w.alloc (.cells #[.int .i64 f, .slice ta m tc] 98)) w.heap.size 2 (rowL [.int .i64 f, .slice ta m tc]) from Blk.new' rfl rfl)
  clear h hi hT hx hb hwv hm hN
  go_enter Tryd.func109, Tryd.ntmps109
  go_upto_region 1 with fail
  obtain ⟨y, hy⟩ : ∃ y, w.heap.size = y := ⟨_, rfl⟩
  obtain ⟨w1, hw1⟩ : ∃ w1, w.alloc (.cells #[.int .i64 f, .slice ta m tc] 98) = w1 := ⟨_, rfl⟩
  rw [hw1] at X1 L1 ⊢
  rw [hy] at L1 ⊢
  clear hw1 hy
  have H1 := Lib.hid (H.out.on X1.out)
  have HB1 := Lib.hid (show Blk w1 g 5 (rowL [.string s, .int .i64 d, .int .i64 n, .int .i64 un, .slice wa L.length wc]) from by have := H1.out.blk.blk; rw [HWV.out] at this; exact this)
  have HCC := Lib.hid (fun (wx : World) (hx : Below w1.heap.size w1 wx) => And.intro (cells5 (HB1.out.below hx HB1.out.lt)) (cells2 (L1.out.below hx L1.out.lt)))
  obtain ⟨N4, hw4⟩ : ∃ N4, IntKind.i64.wrap (4 * n) = N4 := ⟨_, rfl⟩
  have HW4 := Lib.hid (show ∀ f t ts, holdsB s d n t f ts = true → N4 = 4 * n from fun f t ts hh => by
    have := among_of (holds_of hh).2.1
    rw [← hw4, IntKind.wrap_i64]; omega)
  have l0 : (0 : Int) ≤ (L.length : Int) := by omega
  have l1 : (L.length : Int) ≤ 1000 := by have := HL.out; omega
  by_cases c0 : 1 ≤ v
  case neg =>
    have HNO := Lib.hid (show b = false by rw [← HB.out]; exact ok_no1 (T := ⟨s, d, n, un, V⟩) (x := (v, k, f, ts)) (decide_eq_false fun h => c0 h.1))
    have t0 : decide (1 ≤ v) = false := decide_eq_false c0
    clear c0
    refine plan_abs (fun wx => Below w1.heap.size w1 wx) [(true, 0), (true, 1), (true, 2), (true, 3), (true, 4), (true, 5), (true, 6), (true, 7), (true, 8), (true, 9), (true, 10), (true, 11), (true, 12), (true, 13), (true, 14), (true, 15), (true, 16), (true, 17), (true, 18), (true, 19), (true, 20), (true, 21), (true, 22), (true, 23), (true, 24), (true, 25), (true, 26), (true, 27), (true, 28), (true, 29), (true, 30), (true, 31), (true, 32), (true, 33), (true, 34), (true, 35), (true, 36), (false, 37), (true, 38), (true, 39), (true, 40), (true, 41), (true, 42), (true, 43), (true, 44), (true, 45), (true, 46), (true, 47), (true, 48), (true, 49), (true, 50), (true, 51), (true, 52), (true, 53), (true, 54), (true, 56), (false, 55), (false, 57), (true, 58), (true, 59)] (by kernel_rfl) (by kernel_rfl) (fun _ _ d _ _ h => by cases d <;> exact h) fun w5 hs5 => ⟨hs5.below _, ?_⟩
    have Y5 := Lib.hid (hs5.below w1.heap.size)
    clear hs5
    iterate 37 (first | (refine pl_off _ rfl rfl ?_; simp only [Act.put, List.setIfInBounds_toArray, List.set_cons_zero, List.set_cons_succ, List.getElem_toArray, List.getElem_cons_zero, List.getElem_cons_succ]) | (refine pl_run _ ?_ rfl rfl ?_ ?_; rotate_left; (focus (intro w' hS; obtain ⟨⟨c0, c1, c2, c3, c4⟩, d0, d1⟩ := HCC.out w' hS; go_simp; exact rfl)); simp only [Act.put, List.setIfInBounds_toArray, List.set_cons_zero, List.set_cons_succ, List.getElem_toArray, List.getElem_cons_zero, List.getElem_cons_succ]))
    refine pl_offS _ rfl rfl Y5.out ?_
    simp only [Act.put, List.setIfInBounds_toArray, List.set_cons_zero, List.set_cons_succ, List.getElem_toArray, List.getElem_cons_zero, List.getElem_cons_succ]
    iterate 18 (first | (refine pl_off _ rfl rfl ?_; simp only [Act.put, List.setIfInBounds_toArray, List.set_cons_zero, List.set_cons_succ, List.getElem_toArray, List.getElem_cons_zero, List.getElem_cons_succ]) | (refine pl_run _ ?_ rfl rfl ?_ ?_; rotate_left; (focus (intro w' hS; obtain ⟨⟨c0, c1, c2, c3, c4⟩, d0, d1⟩ := HCC.out w' hS; go_simp; exact rfl)); simp only [Act.put, List.setIfInBounds_toArray, List.set_cons_zero, List.set_cons_succ, List.getElem_toArray, List.getElem_cons_zero, List.getElem_cons_succ]))
    refine pl_offS _ rfl rfl Y5.out ?_
    simp only [Act.put, List.setIfInBounds_toArray, List.set_cons_zero, List.set_cons_succ, List.getElem_toArray, List.getElem_cons_zero, List.getElem_cons_succ]
    refine pl_offS _ rfl rfl Y5.out ?_
    simp only [Act.put, List.setIfInBounds_toArray, List.set_cons_zero, List.set_cons_succ, List.getElem_toArray, List.getElem_cons_zero, List.getElem_cons_succ]
    iterate 2 (first | (refine pl_off _ rfl rfl ?_; simp only [Act.put, List.setIfInBounds_toArray, List.set_cons_zero, List.set_cons_succ, List.getElem_toArray, List.getElem_cons_zero, List.getElem_cons_succ]) | (refine pl_run _ ?_ rfl rfl ?_ ?_; rotate_left; (focus (intro w' hS; obtain ⟨⟨c0, c1, c2, c3, c4⟩, d0, d1⟩ := HCC.out w' hS; go_simp; exact rfl)); simp only [Act.put, List.setIfInBounds_toArray, List.set_cons_zero, List.set_cons_succ, List.getElem_toArray, List.getElem_cons_zero, List.getElem_cons_succ]))
    refine pl_end ?_
    go_wp2_with fail
    go_ret
    rw [HNO.out]
    exact ⟨rfl, X1.out.trans (Y5.out.mono X1.out.size)⟩
  have t0 : decide (1 ≤ v) = true := decide_eq_true c0
  by_cases c1 : v ≤ 1000000
  case neg =>
    have HNO := Lib.hid (show b = false by rw [← HB.out]; exact ok_no1 (T := ⟨s, d, n, un, V⟩) (x := (v, k, f, ts)) (decide_eq_false fun h => c1 h.2.1))
    have t1 : decide (v ≤ 1000000) = false := decide_eq_false c1
    clear c0 c1
    refine plan_abs (fun wx => Below w1.heap.size w1 wx) [(true, 0), (true, 1), (true, 2), (true, 3), (true, 4), (true, 5), (true, 6), (true, 7), (true, 8), (true, 9), (true, 10), (true, 11), (true, 12), (true, 13), (true, 14), (true, 15), (true, 16), (true, 17), (true, 18), (true, 19), (true, 20), (true, 21), (true, 22), (true, 23), (true, 24), (true, 25), (true, 26), (true, 27), (true, 28), (true, 29), (true, 30), (true, 31), (true, 32), (true, 33), (true, 34), (true, 35), (true, 36), (false, 37), (true, 38), (true, 39), (true, 40), (true, 41), (true, 42), (true, 43), (true, 44), (true, 45), (true, 46), (true, 47), (true, 48), (true, 49), (true, 50), (true, 51), (true, 52), (true, 53), (true, 54), (true, 56), (false, 55), (false, 57), (true, 58), (true, 59)] (by kernel_rfl) (by kernel_rfl) (fun _ _ d _ _ h => by cases d <;> exact h) fun w5 hs5 => ⟨hs5.below _, ?_⟩
    have Y5 := Lib.hid (hs5.below w1.heap.size)
    clear hs5
    iterate 37 (first | (refine pl_off _ rfl rfl ?_; simp only [Act.put, List.setIfInBounds_toArray, List.set_cons_zero, List.set_cons_succ, List.getElem_toArray, List.getElem_cons_zero, List.getElem_cons_succ]) | (refine pl_run _ ?_ rfl rfl ?_ ?_; rotate_left; (focus (intro w' hS; obtain ⟨⟨c0, c1, c2, c3, c4⟩, d0, d1⟩ := HCC.out w' hS; go_simp; exact rfl)); simp only [Act.put, List.setIfInBounds_toArray, List.set_cons_zero, List.set_cons_succ, List.getElem_toArray, List.getElem_cons_zero, List.getElem_cons_succ]))
    refine pl_offS _ rfl rfl Y5.out ?_
    simp only [Act.put, List.setIfInBounds_toArray, List.set_cons_zero, List.set_cons_succ, List.getElem_toArray, List.getElem_cons_zero, List.getElem_cons_succ]
    iterate 18 (first | (refine pl_off _ rfl rfl ?_; simp only [Act.put, List.setIfInBounds_toArray, List.set_cons_zero, List.set_cons_succ, List.getElem_toArray, List.getElem_cons_zero, List.getElem_cons_succ]) | (refine pl_run _ ?_ rfl rfl ?_ ?_; rotate_left; (focus (intro w' hS; obtain ⟨⟨c0, c1, c2, c3, c4⟩, d0, d1⟩ := HCC.out w' hS; go_simp; exact rfl)); simp only [Act.put, List.setIfInBounds_toArray, List.set_cons_zero, List.set_cons_succ, List.getElem_toArray, List.getElem_cons_zero, List.getElem_cons_succ]))
    refine pl_offS _ rfl rfl Y5.out ?_
    simp only [Act.put, List.setIfInBounds_toArray, List.set_cons_zero, List.set_cons_succ, List.getElem_toArray, List.getElem_cons_zero, List.getElem_cons_succ]
    refine pl_offS _ rfl rfl Y5.out ?_
    simp only [Act.put, List.setIfInBounds_toArray, List.set_cons_zero, List.set_cons_succ, List.getElem_toArray, List.getElem_cons_zero, List.getElem_cons_succ]
    iterate 2 (first | (refine pl_off _ rfl rfl ?_; simp only [Act.put, List.setIfInBounds_toArray, List.set_cons_zero, List.set_cons_succ, List.getElem_toArray, List.getElem_cons_zero, List.getElem_cons_succ]) | (refine pl_run _ ?_ rfl rfl ?_ ?_; rotate_left; (focus (intro w' hS; obtain ⟨⟨c0, c1, c2, c3, c4⟩, d0, d1⟩ := HCC.out w' hS; go_simp; exact rfl)); simp only [Act.put, List.setIfInBounds_toArray, List.set_cons_zero, List.set_cons_succ, List.getElem_toArray, List.getElem_cons_zero, List.getElem_cons_succ]))
    refine pl_end ?_
    go_wp2_with fail
    go_ret
    rw [HNO.out]
    exact ⟨rfl, X1.out.trans (Y5.out.mono X1.out.size)⟩
  have t1 : decide (v ≤ 1000000) = true := decide_eq_true c1
  by_cases c2 : un < v
  case neg =>
    have HNO := Lib.hid (show b = false by rw [← HB.out]; exact ok_no1 (T := ⟨s, d, n, un, V⟩) (x := (v, k, f, ts)) (decide_eq_false fun h => c2 h.2.2.1))
    have t2 : decide (un < v) = false := decide_eq_false c2
    clear c0 c1 c2
    refine plan_abs (fun wx => Below w1.heap.size w1 wx) [(true, 0), (true, 1), (true, 2), (true, 3), (true, 4), (true, 5), (true, 6), (true, 7), (true, 8), (true, 9), (true, 10), (true, 11), (true, 12), (true, 13), (true, 14), (true, 15), (true, 16), (true, 17), (true, 18), (true, 19), (true, 20), (true, 21), (true, 22), (true, 23), (true, 24), (true, 25), (true, 26), (true, 27), (true, 28), (true, 29), (true, 30), (true, 31), (true, 32), (true, 33), (true, 34), (true, 35), (true, 36), (false, 37), (true, 38), (true, 39), (true, 40), (true, 41), (true, 42), (true, 43), (true, 44), (true, 45), (true, 46), (true, 47), (true, 48), (true, 49), (true, 50), (true, 51), (true, 52), (true, 53), (true, 54), (true, 56), (false, 55), (false, 57), (true, 58), (true, 59)] (by kernel_rfl) (by kernel_rfl) (fun _ _ d _ _ h => by cases d <;> exact h) fun w5 hs5 => ⟨hs5.below _, ?_⟩
    have Y5 := Lib.hid (hs5.below w1.heap.size)
    clear hs5
    iterate 37 (first | (refine pl_off _ rfl rfl ?_; simp only [Act.put, List.setIfInBounds_toArray, List.set_cons_zero, List.set_cons_succ, List.getElem_toArray, List.getElem_cons_zero, List.getElem_cons_succ]) | (refine pl_run _ ?_ rfl rfl ?_ ?_; rotate_left; (focus (intro w' hS; obtain ⟨⟨c0, c1, c2, c3, c4⟩, d0, d1⟩ := HCC.out w' hS; go_simp; exact rfl)); simp only [Act.put, List.setIfInBounds_toArray, List.set_cons_zero, List.set_cons_succ, List.getElem_toArray, List.getElem_cons_zero, List.getElem_cons_succ]))
    refine pl_offS _ rfl rfl Y5.out ?_
    simp only [Act.put, List.setIfInBounds_toArray, List.set_cons_zero, List.set_cons_succ, List.getElem_toArray, List.getElem_cons_zero, List.getElem_cons_succ]
    iterate 18 (first | (refine pl_off _ rfl rfl ?_; simp only [Act.put, List.setIfInBounds_toArray, List.set_cons_zero, List.set_cons_succ, List.getElem_toArray, List.getElem_cons_zero, List.getElem_cons_succ]) | (refine pl_run _ ?_ rfl rfl ?_ ?_; rotate_left; (focus (intro w' hS; obtain ⟨⟨c0, c1, c2, c3, c4⟩, d0, d1⟩ := HCC.out w' hS; go_simp; exact rfl)); simp only [Act.put, List.setIfInBounds_toArray, List.set_cons_zero, List.set_cons_succ, List.getElem_toArray, List.getElem_cons_zero, List.getElem_cons_succ]))
    refine pl_offS _ rfl rfl Y5.out ?_
    simp only [Act.put, List.setIfInBounds_toArray, List.set_cons_zero, List.set_cons_succ, List.getElem_toArray, List.getElem_cons_zero, List.getElem_cons_succ]
    refine pl_offS _ rfl rfl Y5.out ?_
    simp only [Act.put, List.setIfInBounds_toArray, List.set_cons_zero, List.set_cons_succ, List.getElem_toArray, List.getElem_cons_zero, List.getElem_cons_succ]
    iterate 2 (first | (refine pl_off _ rfl rfl ?_; simp only [Act.put, List.setIfInBounds_toArray, List.set_cons_zero, List.set_cons_succ, List.getElem_toArray, List.getElem_cons_zero, List.getElem_cons_succ]) | (refine pl_run _ ?_ rfl rfl ?_ ?_; rotate_left; (focus (intro w' hS; obtain ⟨⟨c0, c1, c2, c3, c4⟩, d0, d1⟩ := HCC.out w' hS; go_simp; exact rfl)); simp only [Act.put, List.setIfInBounds_toArray, List.set_cons_zero, List.set_cons_succ, List.getElem_toArray, List.getElem_cons_zero, List.getElem_cons_succ]))
    refine pl_end ?_
    go_wp2_with fail
    go_ret
    rw [HNO.out]
    exact ⟨rfl, X1.out.trans (Y5.out.mono X1.out.size)⟩
  have t2 : decide (un < v) = true := decide_eq_true c2
  by_cases c3 : k.size = 32
  case neg =>
    have HNO := Lib.hid (show b = false by rw [← HB.out]; exact ok_no1 (T := ⟨s, d, n, un, V⟩) (x := (v, k, f, ts)) (decide_eq_false fun h => c3 h.2.2.2))
    have t3 : ((k.size : Int) == 32) = false := by
      rw [beq_eq_false_iff_ne]
      intro e
      exact c3 (by omega)
    clear c0 c1 c2 c3
    refine plan_abs (fun wx => Below w1.heap.size w1 wx) [(true, 0), (true, 1), (true, 2), (true, 3), (true, 4), (true, 5), (true, 6), (true, 7), (true, 8), (true, 9), (true, 10), (true, 11), (true, 12), (true, 13), (true, 14), (true, 15), (true, 16), (true, 17), (true, 18), (true, 19), (true, 20), (true, 21), (true, 22), (true, 23), (true, 24), (true, 25), (true, 26), (true, 27), (true, 28), (true, 29), (true, 30), (true, 31), (true, 32), (true, 33), (true, 34), (true, 35), (true, 36), (false, 37), (true, 38), (true, 39), (true, 40), (true, 41), (true, 42), (true, 43), (true, 44), (true, 45), (true, 46), (true, 47), (true, 48), (true, 49), (true, 50), (true, 51), (true, 52), (true, 53), (true, 54), (true, 56), (false, 55), (false, 57), (true, 58), (true, 59)] (by kernel_rfl) (by kernel_rfl) (fun _ _ d _ _ h => by cases d <;> exact h) fun w5 hs5 => ⟨hs5.below _, ?_⟩
    have Y5 := Lib.hid (hs5.below w1.heap.size)
    clear hs5
    iterate 37 (first | (refine pl_off _ rfl rfl ?_; simp only [Act.put, List.setIfInBounds_toArray, List.set_cons_zero, List.set_cons_succ, List.getElem_toArray, List.getElem_cons_zero, List.getElem_cons_succ]) | (refine pl_run _ ?_ rfl rfl ?_ ?_; rotate_left; (focus (intro w' hS; obtain ⟨⟨c0, c1, c2, c3, c4⟩, d0, d1⟩ := HCC.out w' hS; go_simp; exact rfl)); simp only [Act.put, List.setIfInBounds_toArray, List.set_cons_zero, List.set_cons_succ, List.getElem_toArray, List.getElem_cons_zero, List.getElem_cons_succ]))
    refine pl_offS _ rfl rfl Y5.out ?_
    simp only [Act.put, List.setIfInBounds_toArray, List.set_cons_zero, List.set_cons_succ, List.getElem_toArray, List.getElem_cons_zero, List.getElem_cons_succ]
    iterate 18 (first | (refine pl_off _ rfl rfl ?_; simp only [Act.put, List.setIfInBounds_toArray, List.set_cons_zero, List.set_cons_succ, List.getElem_toArray, List.getElem_cons_zero, List.getElem_cons_succ]) | (refine pl_run _ ?_ rfl rfl ?_ ?_; rotate_left; (focus (intro w' hS; obtain ⟨⟨c0, c1, c2, c3, c4⟩, d0, d1⟩ := HCC.out w' hS; go_simp; exact rfl)); simp only [Act.put, List.setIfInBounds_toArray, List.set_cons_zero, List.set_cons_succ, List.getElem_toArray, List.getElem_cons_zero, List.getElem_cons_succ]))
    refine pl_offS _ rfl rfl Y5.out ?_
    simp only [Act.put, List.setIfInBounds_toArray, List.set_cons_zero, List.set_cons_succ, List.getElem_toArray, List.getElem_cons_zero, List.getElem_cons_succ]
    refine pl_offS _ rfl rfl Y5.out ?_
    simp only [Act.put, List.setIfInBounds_toArray, List.set_cons_zero, List.set_cons_succ, List.getElem_toArray, List.getElem_cons_zero, List.getElem_cons_succ]
    iterate 2 (first | (refine pl_off _ rfl rfl ?_; simp only [Act.put, List.setIfInBounds_toArray, List.set_cons_zero, List.set_cons_succ, List.getElem_toArray, List.getElem_cons_zero, List.getElem_cons_succ]) | (refine pl_run _ ?_ rfl rfl ?_ ?_; rotate_left; (focus (intro w' hS; obtain ⟨⟨c0, c1, c2, c3, c4⟩, d0, d1⟩ := HCC.out w' hS; go_simp; exact rfl)); simp only [Act.put, List.setIfInBounds_toArray, List.set_cons_zero, List.set_cons_succ, List.getElem_toArray, List.getElem_cons_zero, List.getElem_cons_succ]))
    refine pl_end ?_
    go_wp2_with fail
    go_ret
    rw [HNO.out]
    exact ⟨rfl, X1.out.trans (Y5.out.mono X1.out.size)⟩
  have t3 : ((k.size : Int) == 32) = true := by rw [beq_iff_eq]; omega
  by_cases c4 : (L.length : Int) < N4
  case neg =>
    have HNO := Lib.hid (show b = false by rw [← HB.out]; exact no4 HVL.out HW4.out c4)
    have t4 : decide ((L.length : Int) < N4) = false := decide_eq_false c4
    clear c0 c1 c2 c3 c4
    refine plan_abs (fun wx => Below w1.heap.size w1 wx) [(true, 0), (true, 1), (true, 2), (true, 3), (true, 4), (true, 5), (true, 6), (true, 7), (true, 8), (true, 9), (true, 10), (true, 11), (true, 12), (true, 13), (true, 14), (true, 15), (true, 16), (true, 17), (true, 18), (true, 19), (true, 20), (true, 21), (true, 22), (true, 23), (true, 24), (true, 25), (true, 26), (true, 27), (true, 28), (true, 29), (true, 30), (true, 31), (true, 32), (true, 33), (true, 34), (true, 35), (true, 36), (false, 37), (true, 38), (true, 39), (true, 40), (true, 41), (true, 42), (true, 43), (true, 44), (true, 45), (true, 46), (true, 47), (true, 48), (true, 49), (true, 50), (true, 51), (true, 52), (true, 53), (true, 54), (true, 56), (false, 55), (false, 57), (true, 58), (true, 59)] (by kernel_rfl) (by kernel_rfl) (fun _ _ d _ _ h => by cases d <;> exact h) fun w5 hs5 => ⟨hs5.below _, ?_⟩
    have Y5 := Lib.hid (hs5.below w1.heap.size)
    clear hs5
    iterate 37 (first | (refine pl_off _ rfl rfl ?_; simp only [Act.put, List.setIfInBounds_toArray, List.set_cons_zero, List.set_cons_succ, List.getElem_toArray, List.getElem_cons_zero, List.getElem_cons_succ]) | (refine pl_run _ ?_ rfl rfl ?_ ?_; rotate_left; (focus (intro w' hS; obtain ⟨⟨c0, c1, c2, c3, c4⟩, d0, d1⟩ := HCC.out w' hS; go_simp; exact rfl)); simp only [Act.put, List.setIfInBounds_toArray, List.set_cons_zero, List.set_cons_succ, List.getElem_toArray, List.getElem_cons_zero, List.getElem_cons_succ]))
    refine pl_offS _ rfl rfl Y5.out ?_
    simp only [Act.put, List.setIfInBounds_toArray, List.set_cons_zero, List.set_cons_succ, List.getElem_toArray, List.getElem_cons_zero, List.getElem_cons_succ]
    iterate 18 (first | (refine pl_off _ rfl rfl ?_; simp only [Act.put, List.setIfInBounds_toArray, List.set_cons_zero, List.set_cons_succ, List.getElem_toArray, List.getElem_cons_zero, List.getElem_cons_succ]) | (refine pl_run _ ?_ rfl rfl ?_ ?_; rotate_left; (focus (intro w' hS; obtain ⟨⟨c0, c1, c2, c3, c4⟩, d0, d1⟩ := HCC.out w' hS; go_simp; exact rfl)); simp only [Act.put, List.setIfInBounds_toArray, List.set_cons_zero, List.set_cons_succ, List.getElem_toArray, List.getElem_cons_zero, List.getElem_cons_succ]))
    refine pl_offS _ rfl rfl Y5.out ?_
    simp only [Act.put, List.setIfInBounds_toArray, List.set_cons_zero, List.set_cons_succ, List.getElem_toArray, List.getElem_cons_zero, List.getElem_cons_succ]
    refine pl_offS _ rfl rfl Y5.out ?_
    simp only [Act.put, List.setIfInBounds_toArray, List.set_cons_zero, List.set_cons_succ, List.getElem_toArray, List.getElem_cons_zero, List.getElem_cons_succ]
    iterate 2 (first | (refine pl_off _ rfl rfl ?_; simp only [Act.put, List.setIfInBounds_toArray, List.set_cons_zero, List.set_cons_succ, List.getElem_toArray, List.getElem_cons_zero, List.getElem_cons_succ]) | (refine pl_run _ ?_ rfl rfl ?_ ?_; rotate_left; (focus (intro w' hS; obtain ⟨⟨c0, c1, c2, c3, c4⟩, d0, d1⟩ := HCC.out w' hS; go_simp; exact rfl)); simp only [Act.put, List.setIfInBounds_toArray, List.set_cons_zero, List.set_cons_succ, List.getElem_toArray, List.getElem_cons_zero, List.getElem_cons_succ]))
    refine pl_end ?_
    go_wp2_with fail
    go_ret
    rw [HNO.out]
    exact ⟨rfl, X1.out.trans (Y5.out.mono X1.out.size)⟩
  have t4 : decide ((L.length : Int) < N4) = true := decide_eq_true c4
  obtain ⟨Y, hY⟩ : ∃ Y, hadL V v f = Y := ⟨_, rfl⟩
  have HY := Lib.hid hY
  clear hY
  have HVOT := Lib.hid (fun (wx : World) (hb : Below w1.heap.size w1 wx) => voted_any (H1.out.on hb) HL.out v f Y HY.out)
  have HBA := Lib.hid (And.intro c0 (And.intro c1 (And.intro c2 c3)))
  have HC4 := Lib.hid c4
  clear c0 c1 c2 c3 c4
  refine plan_abs (fun wx => Below w1.heap.size w1 wx) [(true, 0), (true, 1), (true, 2), (true, 3), (true, 4), (true, 5), (true, 6), (true, 7), (true, 8), (true, 9), (true, 10), (true, 11), (true, 12), (true, 13), (true, 14), (true, 15), (true, 16), (true, 17), (true, 18), (true, 19), (true, 20), (true, 21), (true, 22), (true, 23), (true, 24), (true, 25), (true, 26), (true, 27), (true, 28), (true, 29), (true, 30), (true, 31), (true, 32), (true, 33), (true, 34), (true, 35), (true, 36), (false, 37), (true, 38), (true, 39), (true, 40), (true, 41), (true, 42), (true, 43), (true, 44), (true, 45), (true, 46), (true, 47), (true, 48), (true, 49), (true, 50), (true, 51), (true, 52), (true, 53), (true, 54), (true, 56), (false, 55), (false, 57), (true, 58), (true, 59)] (by kernel_rfl) (by kernel_rfl) (fun _ _ d _ _ h => by cases d <;> exact h) fun w5 hs5 => ⟨hs5.below _, ?_⟩
  have Y5 := Lib.hid (hs5.below w1.heap.size)
  clear hs5
  iterate 37 (first | (refine pl_off _ rfl rfl ?_; simp only [Act.put, List.setIfInBounds_toArray, List.set_cons_zero, List.set_cons_succ, List.getElem_toArray, List.getElem_cons_zero, List.getElem_cons_succ]) | (refine pl_run _ ?_ rfl rfl ?_ ?_; rotate_left; (focus (intro w' hS; obtain ⟨⟨c0, c1, c2, c3, c4⟩, d0, d1⟩ := HCC.out w' hS; go_simp; exact rfl)); simp only [Act.put, List.setIfInBounds_toArray, List.set_cons_zero, List.set_cons_succ, List.getElem_toArray, List.getElem_cons_zero, List.getElem_cons_succ]))
  refine pl_call1 (R := fun w' => Below w5.heap.size w5 w') _ rfl rfl (by go_simp) (HVOT.out w5 Y5.out) (fun w' hb => Y5.out.trans (hb.mono Y5.out.size)) fun w6 hb6 => ?_
  have Y6 := Lib.hid (Y5.out.trans (hb6.mono Y5.out.size))
  clear hb6
  simp only [Act.put, List.setIfInBounds_toArray, List.set_cons_zero, List.set_cons_succ, List.getElem_toArray, List.getElem_cons_zero, List.getElem_cons_succ]
  rcases Y with _ | _
  case true =>
    have HNO := Lib.hid (show b = false by rw [← HB.out]; exact ok_no4 (T := ⟨s, d, n, un, V⟩) (x := (v, k, f, ts)) HY.out)
    iterate 18 (first | (refine pl_off _ rfl rfl ?_; simp only [Act.put, List.setIfInBounds_toArray, List.set_cons_zero, List.set_cons_succ, List.getElem_toArray, List.getElem_cons_zero, List.getElem_cons_succ]) | (refine pl_run _ ?_ rfl rfl ?_ ?_; rotate_left; (focus (intro w' hS; obtain ⟨⟨c0, c1, c2, c3, c4⟩, d0, d1⟩ := HCC.out w' hS; go_simp; exact rfl)); simp only [Act.put, List.setIfInBounds_toArray, List.set_cons_zero, List.set_cons_succ, List.getElem_toArray, List.getElem_cons_zero, List.getElem_cons_succ]))
    refine pl_offS _ rfl rfl Y6.out ?_
    simp only [Act.put, List.setIfInBounds_toArray, List.set_cons_zero, List.set_cons_succ, List.getElem_toArray, List.getElem_cons_zero, List.getElem_cons_succ]
    refine pl_offS _ rfl rfl Y6.out ?_
    simp only [Act.put, List.setIfInBounds_toArray, List.set_cons_zero, List.set_cons_succ, List.getElem_toArray, List.getElem_cons_zero, List.getElem_cons_succ]
    iterate 2 (first | (refine pl_off _ rfl rfl ?_; simp only [Act.put, List.setIfInBounds_toArray, List.set_cons_zero, List.set_cons_succ, List.getElem_toArray, List.getElem_cons_zero, List.getElem_cons_succ]) | (refine pl_run _ ?_ rfl rfl ?_ ?_; rotate_left; (focus (intro w' hS; obtain ⟨⟨c0, c1, c2, c3, c4⟩, d0, d1⟩ := HCC.out w' hS; go_simp; exact rfl)); simp only [Act.put, List.setIfInBounds_toArray, List.set_cons_zero, List.set_cons_succ, List.getElem_toArray, List.getElem_cons_zero, List.getElem_cons_succ]))
    refine pl_end ?_
    go_wp2_with fail
    go_ret
    rw [HNO.out]
    exact ⟨rfl, X1.out.trans (Y6.out.mono X1.out.size)⟩
  iterate 18 (first | (refine pl_off _ rfl rfl ?_; simp only [Act.put, List.setIfInBounds_toArray, List.set_cons_zero, List.set_cons_succ, List.getElem_toArray, List.getElem_cons_zero, List.getElem_cons_succ]) | (refine pl_run _ ?_ rfl rfl ?_ ?_; rotate_left; (focus (intro w' hS; obtain ⟨⟨c0, c1, c2, c3, c4⟩, d0, d1⟩ := HCC.out w' hS; go_simp; exact rfl)); simp only [Act.put, List.setIfInBounds_toArray, List.set_cons_zero, List.set_cons_succ, List.getElem_toArray, List.getElem_cons_zero, List.getElem_cons_succ]))
  refine pl_call1 (R := fun w' => Below w6.heap.size w6 w') _ rfl rfl (by go_simp) (text5_any v k (by have := HK.out; omega) w6) (fun w' hb => Y6.out.trans (hb.mono Y6.out.size)) fun w7 hb7 => ?_
  have Y7 := Lib.hid (Y6.out.trans (hb7.mono Y6.out.size))
  clear hb7
  simp only [Act.put, List.setIfInBounds_toArray, List.set_cons_zero, List.set_cons_succ, List.getElem_toArray, List.getElem_cons_zero, List.getElem_cons_succ]
  obtain ⟨Z, hZ⟩ : ∃ Z, holdsB s d n (textB v k) f ts = Z := ⟨_, rfl⟩
  have HZ := Lib.hid hZ
  have HH := Lib.hid (holds_any s d n (textB v k) f (.slice ta m tc) ts w7 (HVS.out.later (X1.out.trans (Y7.out.mono X1.out.size))) (by have := HTL.out; omega) HSS.out (by rw [textB_size]; have := HK.out; omega) (HT.out.below (X1.out.trans (Y7.out.mono X1.out.size)) (Nat.le_refl _)))
  rw [hZ] at HH
  clear hZ
  refine pl_call1 (R := fun w' => Below w7.heap.size w7 w') _ rfl rfl (by go_simp) HH.out (fun w' hb => Y7.out.trans (hb.mono Y7.out.size)) fun w8 hb8 => ?_
  have Y8 := Lib.hid (Y7.out.trans (hb8.mono Y7.out.size))
  clear hb8
  simp only [Act.put, List.setIfInBounds_toArray, List.set_cons_zero, List.set_cons_succ, List.getElem_toArray, List.getElem_cons_zero, List.getElem_cons_succ]
  have HFIN := Lib.hid (show b = Z by
    rw [← HB.out]
    rcases Z with _ | _
    · exact ok_no2 (T := ⟨s, d, n, un, V⟩) (x := (v, k, f, ts)) HZ.out
    · exact ok_yes (T := ⟨s, d, n, un, V⟩) (x := (v, k, f, ts)) (decide_eq_true HBA.out) HZ.out (by have h1 := HC4.out; rw [HW4.out _ _ _ HZ.out, HVL.out] at h1; exact h1) HY.out)
  iterate 2 (first | (refine pl_off _ rfl rfl ?_; simp only [Act.put, List.setIfInBounds_toArray, List.set_cons_zero, List.set_cons_succ, List.getElem_toArray, List.getElem_cons_zero, List.getElem_cons_succ]) | (refine pl_run _ ?_ rfl rfl ?_ ?_; rotate_left; (focus (intro w' hS; obtain ⟨⟨c0, c1, c2, c3, c4⟩, d0, d1⟩ := HCC.out w' hS; go_simp; exact rfl)); simp only [Act.put, List.setIfInBounds_toArray, List.set_cons_zero, List.set_cons_succ, List.getElem_toArray, List.getElem_cons_zero, List.getElem_cons_succ]))
  refine pl_end ?_
  go_wp2_with fail
  go_ret
  rw [HFIN.out]
  exact ⟨rfl, X1.out.trans (Y8.out.mono X1.out.size)⟩
end Go.Proofs.YtegkhhegapnkpaaDoor
end
section
open Go Go.RowKit
namespace TA
open QU ZZ RR FF JJ CC MM WW BB
theorem vr_at {t : TypeId} {w : World} {b o n cap : Nat} {D : Nat → Vx} (h : RowR 4 encX t w b o n cap D) (i : Nat) (hi : i < n) :
    w.cell? ⟨b, o + i * 4, none⟩ = some (.int .i64 (D i).1) ∧ w.cell? ⟨b, o + i * 4 + 1, none⟩ = some (.string (D i).2.1) ∧ w.cell? ⟨b, o + i * 4 + 2, none⟩ = some (.int .i64 (D i).2.2.1) ∧ w.cell? ⟨b, o + i * 4 + 3, none⟩ = some (tvS (D i).2.2) :=
  ⟨h.get i hi 0 _ rfl, h.get i hi 1 _ rfl, h.get i hi 2 _ rfl, h.get i hi 3 _ rfl⟩
theorem vx_cells {w : World} {g : Nat} {a b c d : Value} (h : Blk w g 4 (rowL [a, b, c, d])) : w.cell? ⟨g, 0, none⟩ = some a ∧ w.cell? ⟨g, 1, none⟩ = some b ∧ w.cell? ⟨g, 2, none⟩ = some c ∧ w.cell? ⟨g, 3, none⟩ = some d :=
  ⟨h.get 0 (by omega), h.get 1 (by omega), h.get 2 (by omega), h.get 3 (by omega)⟩
theorem zero_vx (n : Nat) : (Builtin.zeroCells (Value.agg #[.int .i64 0, .string ⟨#[]⟩, .int .i64 0, .slice none 0 0]).cells n).toList.length = n * 4 ∧ ∀ v ∈ (Builtin.zeroCells (Value.agg #[.int .i64 0, .string ⟨#[]⟩, .int .i64 0, .slice none 0 0]).cells n).toList, v.oneCell' = true := by
  refine ⟨by simp [Builtin.zeroCells, Value.cells], fun v hv => ?_⟩
  simp only [Builtin.zeroCells, Value.cells, Array.toList_map, List.mem_map] at hv
  obtain ⟨i, _, rfl⟩ := hv
  have : i % 4 = 0 ∨ i % 4 = 1 ∨ i % 4 = 2 ∨ i % 4 = 3 := by omega
  rcases this with h | h | h | h <;> simp [h, Value.oneCell']
end TA
namespace Go.Proofs.YtegkhhegapnkpaaDoor
open TA QU ZZ FF JJ CC MM WW BB RR
theorem und_votesT : Tryd.prog.underlying 164 = some (.slice 169) := by kernel_rfl
set_option maxRecDepth 100000 in
set_option maxHeartbeats 8000000 in
theorem tdel_any (W : List Vx) (b o cap : Nat) (fv : Value) (p : Vx → Bool) (w : World) (hr : RowR 4 encX 169 w b o W.length cap (fun i => W.getD i vx0)) (hl : W.length ≤ 1000)
    (hp : ∀ r ∈ W, ∀ wr, Keep b w wr → CallsW Tryd.prog fv #[vqX r] wr fun e w' => e = .returned (.bool (p r)) ∧ Below wr.heap.size wr w') :
    Calls Tryd.prog 107 #[.slice (some ⟨b, o, none⟩) W.length cap, fv] w fun e w' => e = .returned (.slice (some ⟨b, o, none⟩) (W.filter fun r => !p r).length cap) ∧ Keep b w w' ∧ RowR 4 encX 169 w' b o (W.filter fun r => !p r).length cap (fun i => (W.filter fun r => !p r).getD i vx0) := by
  have HR := Lib.hid hr
  have HL := Lib.hid hl
  have HP := Lib.hid hp
  have HV := Lib.hid (show GRow 4 encX vx0 (fun _ => True) w (.slice (some ⟨b, o, none⟩) W.length cap) W from ⟨_, cap, rfl, Or.inr ⟨b, o, rfl, trivial, hr.lt, fun i hi j u hu => hr.get i hi j u hu⟩⟩)
  have HM := Lib.hid (fun i (hi : i < W.length) => show W.getD i vx0 ∈ W by rw [getD_at hi]; exact List.getElem_mem hi)
  clear hr hl hp
  go_enter Tryd.func107, Tryd.ntmps107
  go_wp2_with fail
  refine (tifun_any W _ fv p w HV.out HL.out (fun i hi wr hb => HP.out _ (HM.out i hi) wr (keep_of_below hb (Nat.le_refl _) b))).mono ?_
  rintro e w2 ⟨rfl, hb2⟩
  have B2 := Lib.hid hb2
  have R2 := Lib.hid (HR.out.on (hb2.block b HR.out.lt))
  clear hb2
  rcases idxG_first vx0 W p with ⟨hi, hf⟩ | ⟨i, hi, hlt, hpi, hnone⟩
  · rw [hi]
    have HF := Lib.hid hf
    clear hi hf
    go_wp2_with fail
    go_ret
    rw [HF.out]
    exact ⟨rfl, keep_of_below B2.out (Nat.le_refl _) b, R2.out⟩
  · rw [hi]
    have HI := Lib.hid hlt
    have HPI := Lib.hid hpi
    have HTK := Lib.hid (delG_none vx0 W p i (Nat.le_of_lt hlt) hnone)
    have HK1 := Lib.hid (show delG W p (i + 1) = W.take i by rw [delG_skip vx0 W p i hlt hpi]; exact delG_none vx0 W p i (Nat.le_of_lt hlt) hnone)
    have hne : ((i : Int) == -1) = false := by rw [beq_eq_false_iff_ne]; omega
    have hne2 : ¬ (i : Int) = -1 := by omega
    have i0 : (0 : Int) ≤ (i : Int) := by omega
    have ib : (i : Int) ≤ 1000 := by have := HL.out; omega
    clear hi hlt hpi hnone
    go_wp2_with fail
    go_loopw [5, 6] (fun x y wx => ∃ c j : Nat, j ≤ W.length ∧ i < j ∧ y = .int .i64 (j : Int) ∧ c = (delG W p j).length ∧ x = .int .i64 (c : Int) ∧ RowR 4 encX 169 wx b o W.length cap (delF vx0 W p j) ∧ Keep b w wx) (fun _ y _ => W.length - (RowKit.intOf y).toNat)
    case atStart =>
      refine ⟨i, i + 1, HI.out, Nat.lt_succ_self i, by go_num, ?_, rfl, R2.out.congr _ fun k hk => ?_, keep_of_below B2.out (Nat.le_refl _) b⟩
      · rw [HK1.out, List.length_take]; have := HI.out; omega
      · unfold delF
        rw [HK1.out, List.length_take]
        split
        · rename_i h; simp [List.getD, List.getElem?_take_of_lt (show k < i by omega)]
        · rfl
    case round =>
      obtain ⟨c, j, hj, hij, rfl, hc, rfl, hrow, hkeep⟩ := hrel
      have HRW := Lib.hid hrow
      have HKE := Lib.hid hkeep
      have HCC := Lib.hid hc
      have HIJ := Lib.hid hij
      have HCL := Lib.hid (show c < j by rw [hc]; exact delG_lt vx0 W p i HI.out HPI.out j hij hj)
      have j0 : (0 : Int) ≤ (j : Int) := by omega
      have jb : (j : Int) ≤ 1000 := by have := HL.out; omega
      have c0' : (0 : Int) ≤ (c : Int) := by omega
      have cb' : (c : Int) ≤ 1000 := by have := HCL.out; omega
      clear hrow hkeep hc hij
      by_cases hlt : j < W.length
      · have l1 : (j : Int) < (W.length : Int) := by omega
        have HLT := Lib.hid hlt
        obtain ⟨a0, a1, a2, a3⟩ := vr_at HRW.out j hlt
        have e1 : delF vx0 W p j j = W.getD j vx0 := by unfold delF; rw [if_neg (by rw [← HCC.out]; have := HCL.out; omega)]
        rw [e1] at a0 a1 a2 a3
        have HQ := Lib.hid (HP.out _ (HM.out j hlt))
        obtain ⟨r, hr⟩ : ∃ r, W.getD j vx0 = r := ⟨_, rfl⟩
        have HRR := Lib.hid hr
        rw [hr] at a0 a1 a2 a3 HQ
        obtain ⟨xv, xk, xf, ⟨xa, xc⟩, xt⟩ := r
        rw [show tvS (xf, (xa, xc), xt) = .slice xa xt.length xc from rfl] at a3
        have X1 := Lib.hid ((Below.refl wr.heap.size wr).alloc (Nat.le_refl _) (.cells #[.int .i64 xv, .string xk, .int .i64 xf, .slice xa xt.length xc] 169))
        have BX := Lib.hid (show Blk (wr.alloc (.cells #[.int .i64 xv, .string xk, .int .i64 xf, .slice xa xt.length xc] 169)) wr.heap.size 4 (rowL [.int .i64 xv, .string xk, .int .i64 xf, .slice xa xt.length xc]) from Blk.new' rfl rfl)
        clear hlt hj e1 hr
        go_wp2_with (with_reducible refine hold_callv rfl rfl ?_)
        clear a0 a1 a2 a3
        refine wpl_callw (v := fv) (args := #[vqX (xv, xk, xf, (xa, xc), xt)]) _ rfl rfl rfl (by simp [Act.eval]; rfl) (HQ.out _ (HKE.out.trans (keep_of_below X1.out (Nat.le_refl _) b))) (fun e w' h => ⟨_, h.1⟩) ?_
        rintro u w3 ⟨hu, hb3⟩
        injection hu with hu
        subst hu
        have B3 := Lib.hid (X1.out.trans (hb3.mono X1.out.size))
        have R3 := Lib.hid (HRW.out.on (B3.out.block b HRW.out.lt))
        have K3 := Lib.hid (HKE.out.trans (keep_of_below B3.out (Nat.le_refl _) b))
        have BX3 := Lib.hid (BX.out.below hb3 BX.out.lt)
        clear hb3 HQ
        rcases hpp : p (xv, xk, xf, (xa, xc), xt) with _ | _
        · have HPP := Lib.hid hpp
          have HCW := Lib.hid (show c < W.length by have := HCL.out; have := HLT.out; omega)
          obtain ⟨d0, d1, d2, d3⟩ := vx_cells BX3.out
          obtain ⟨m0, m1, m2, m3⟩ := vr_at R3.out c HCW.out
          have f0 := R3.out.frz (o + c * 4)
          have f1 := R3.out.frz (o + c * 4 + 1)
          have f2 := R3.out.frz (o + c * 4 + 2)
          have f3 := R3.out.frz (o + c * 4 + 3)
          have l3 : (c : Int) < (W.length : Int) := by have := HCW.out; omega
          have HNW := Lib.hid ((R3.out.set encX_len c HCW.out (xv, xk, xf, (xa, xc), xt)).congr (delF vx0 W p (j + 1)) fun k _ => by rw [HCC.out, ← HRR.out]; exact delF_put vx0 W p j HLT.out (by rw [HRR.out]; exact HPP.out) k)
          have HKN := Lib.hid (K3.out.trans (keepC b (encX (xv, xk, xf, (xa, xc), xt)) (o + c * 4) w3))
          clear hpp
          go_wp2_with fail
          go_roundw
          case rel => exact ⟨c + 1, j + 1, HLT.out, by have := HIJ.out; omega, by go_num, by rw [delG_succ vx0 W p j HLT.out, HRR.out, if_neg (by rw [HPP.out]; decide), List.length_append, ← HCC.out]; rfl, by go_num, HNW.out, HKN.out⟩
          case measure => have := HLT.out; simp [RowKit.intOf]; omega
        · have HPP := Lib.hid hpp
          have HSK := Lib.hid (delG_skip vx0 W p j HLT.out (by rw [HRR.out]; exact HPP.out))
          clear hpp
          go_wp2_with fail
          go_roundw
          case rel => exact ⟨c, j + 1, HLT.out, by have := HIJ.out; omega, by go_num, by rw [HSK.out]; exact HCC.out, rfl, R3.out.congr _ fun k _ => by unfold delF; rw [HSK.out], K3.out⟩
          case measure => have := HLT.out; simp [RowKit.intOf]; omega
      · obtain rfl : j = W.length := by omega
        have l1 : ¬ (W.length : Int) < (W.length : Int) := by omega
        have HCW := Lib.hid (show c < W.length from HCL.out)
        have HCAP := Lib.hid (show W.length ≤ cap from HRW.out.room)
        have l2 : c < cap := by have := HCW.out; have := HCAP.out; omega
        have l3 : (c : Int) ≤ (W.length : Int) := by have := HCW.out; omega
        have l4 : (c : Int) ≤ (cap : Int) := by omega
        have hz := zero_vx (W.length - c)
        have hclr : ∀ ty, (Builtin.clear_ #[164] ty #[.slice (some ⟨b, o + c * 4, none⟩) (W.length - c) (cap - c)]).run Tryd.prog wr = .ok (.tuple #[]) (wr.setCells b (o + c * 4) (Builtin.zeroCells (Value.agg #[.int .i64 0, .string ⟨#[]⟩, .int .i64 0, .slice none 0 0]).cells (W.length - c)).toList) := fun ty =>
          run_clearK wr 164 169 ty _ und_votesT (fun _ => rfl) b (o + c * 4) (W.length - c) (cap - c) ((W.length - c) * 4) (by have := HCW.out; omega) hz.1 hz.2
            (fun j hj => by have := (HRW.out.some encX_len (c * 4 + j) (by have := HCW.out; omega)).1; rw [show o + (c * 4 + j) = o + c * 4 + j by omega] at this; exact this)
            (fun j hj => HRW.out.frz _)
        have HKK := Lib.hid (show delG W p W.length = W.filter fun r => !p r from delG_all W p)
        have HLEN := Lib.hid (show (W.filter fun r => !p r).length = c by rw [← HKK.out]; exact HCC.out.symm)
        have HOUT := Lib.hid (show RowR 4 encX 169 (wr.setCells b (o + c * 4) (Builtin.zeroCells (Value.agg #[.int .i64 0, .string ⟨#[]⟩, .int .i64 0, .slice none 0 0]).cells (W.length - c)).toList) b o c cap (fun i => (W.filter fun r => !p r).getD i vx0) from
          (HRW.out.past encX_len c (Nat.le_of_lt HCW.out) _).congr _ fun k hk => by unfold delF; rw [if_pos (by rw [← HCC.out]; exact hk), HKK.out])
        have HKB := Lib.hid (HKE.out.trans (keepC b (Builtin.zeroCells (Value.agg #[.int .i64 0, .string ⟨#[]⟩, .int .i64 0, .slice none 0 0]).cells (W.length - c)).toList (o + c * 4) wr))
        clear hz hj hlt
        go_wp2_with fail
        go_ret
        rw [HLEN.out]
        exact ⟨rfl, HKB.out, HOUT.out⟩
set_option maxRecDepth 100000 in
set_option maxHeartbeats 2000000 in
theorem tdel_nil (fv : Value) (w : World) :
    Calls Tryd.prog 107 #[.slice none 0 0, fv] w fun e w' => e = .returned (.slice none 0 0) ∧ Below w.heap.size w w' := by
  go_enter Tryd.func107, Tryd.ntmps107
  go_wp2_with fail
  refine (tifun_any [] (.slice none 0 0) fv (fun _ => false) w ⟨none, 0, rfl, Or.inl rfl⟩ (Nat.zero_le _) (fun i hi _ _ => absurd hi (Nat.not_lt_zero _))).mono ?_
  rintro e w2 ⟨rfl, hb2⟩
  rw [show idxI ([] : List Vx) (fun _ => false) = -1 from rfl]
  go_wp2_with fail
  go_ret
  exact ⟨rfl, hb2⟩
end Go.Proofs.YtegkhhegapnkpaaDoor
end
section
open Go Go.RowKit
namespace TA
open QU ZZ RR FF JJ CC MM WW BB
section
variable {tt tv : TypeId} {w w1 : World} {g : Nat} {T : Ta} {L L' : List Vx} {wv wv' : Value} {K K' : Nat → Prop}
theorem TqM.under (h : TqM tt tv w g T L wv K) (M : Int) : TqM tt tv (w.setCell ⟨g, 3, none⟩ (.int .i64 M)) g { T with under := M } L wv K := by
  have hu := Upd.set w g 3 (.int .i64 M)
  have hk : Keeps (fun b => b ≠ g) w (w.setCell ⟨g, 3, none⟩ (.int .i64 M)) := Keeps.upd' hu fun c => c rfl
  refine ⟨(h.blk.set 3 _).congr _ fun i hi => ?_, row_keep h.row fun c hc => hk.block c (fun e => h.gr (e ▸ hc)) (h.row.lt c hc).2, fun x hx => (h.tags x hx).keep (hk.sub fun b hb _ e => h.kg (e ▸ hb)), fun b hb => Nat.lt_of_lt_of_le (h.lt b hb) hk.b0.size, h.kg, h.kr, h.gr, h.is⟩
  match i, hi with
  | 0, _ => rfl
  | 1, _ => rfl
  | 2, _ => rfl
  | 3, _ => rfl
  | 4, _ => rfl
/-- another row lies in the tally's block -/
theorem TqM.newrow (h : TqM tt tv w g T L wv K) (hr : w1.ownsRow 0 tv 4 wv' L'.length (cellsG encX L')) (hk : Keeps (fun b => wv.ownBlock ≠ some b) w w1) (hloc : ∀ b, wv'.ownBlock = some b → wv.ownBlock = some b ∨ w.heap.size ≤ b)
    (ht : ∀ x ∈ L', TagIn K' w1 x.2.2) (hKL : ∀ b, K' b → b < w1.heap.size) (hKg : ¬ K' g) (hKr : ∀ b, wv'.ownBlock = some b → ¬ K' b) :
    TqM tt tv (w1.setCell ⟨g, 4, none⟩ wv') g { T with votes := L'.map nude } L' wv' K' ∧ Keeps (fun b => wv.ownBlock ≠ some b ∧ b ≠ g) w (w1.setCell ⟨g, 4, none⟩ wv') := by
  have hu := Upd.set w1 g 4 wv'
  have hgo : ∀ b, wv'.ownBlock = some b → b ≠ g := fun b hb e => by
    rcases hloc b hb with h1 | h1
    · exact h.gr (e ▸ h1)
    · have := h.blk.lt; omega
  have hk1 : Keeps (fun b => b ≠ g) w1 (w1.setCell ⟨g, 4, none⟩ wv') := Keeps.upd' hu fun c => c rfl
  have hk2 : Keeps (fun b => wv.ownBlock ≠ some b ∧ b ≠ g) w (w1.setCell ⟨g, 4, none⟩ wv') := (hk.sub fun b hb _ => hb.1).trans (hk1.sub fun b hb _ => hb.2)
  refine ⟨⟨?_, row_keep hr fun c hc => hu.block c (hgo c hc), fun x hx => (ht x hx).keep (hk1.sub fun b hb _ e => hKg (e ▸ hb)), fun b hb => Nat.lt_of_lt_of_le (hKL b hb) hk1.b0.size, hKg, hKr, fun e => hgo g e rfl, rfl⟩, hk2⟩
  have k1 : TBlk tt w1 g 5 _ := (hk.block g (fun e => h.gr e) h.blk.lt).trans h.blk
  refine (k1.set 4 _).congr _ fun j hj => ?_
  match j, hj with
  | 0, _ => rfl
  | 1, _ => rfl
  | 2, _ => rfl
  | 3, _ => rfl
  | 4, _ => rfl
end
theorem below_votes (L : List Vx) (M : Int) : (L.filter fun x => !decide (x.1 ≤ M)).map nude = (L.map nude).filter fun x => decide (M < x.1) := by
  rw [List.filter_map]
  congr 1
  apply List.filter_congr
  intro x _
  show (!decide (x.1 ≤ M)) = decide (M < x.1)
  by_cases hc : x.1 ≤ M
  · rw [decide_eq_true hc, decide_eq_false (by omega)]; rfl
  · rw [decide_eq_false hc, decide_eq_true (by omega)]; rfl
end TA
namespace Go.Proofs.YtegkhhegapnkpaaDoor
open TA QU ZZ RR FF JJ CC MM WW BB
set_option maxRecDepth 100000 in
set_option maxHeartbeats 2000000 in
theorem own_below1 : WW.Own Tryd.prog 108 := ⟨_, Tryd.func108, by kernel_rfl, by kernel_rfl⟩
set_option maxRecDepth 100000 in
set_option maxHeartbeats 4000000 in
/-- is this vote's view below? -/
theorem below1_any (x : Vx) (p g : Nat) (M : Int) (w : World) (hp : w.cell? ⟨p, 0, none⟩ = some (.pointer (some ⟨g, 0, none⟩))) (hg : w.cell? ⟨g, 3, none⟩ = some (.int .i64 M)) (hpl : p < w.heap.size) (hgl : g < w.heap.size) :
    Calls Tryd.prog 108 #[vqX x, .pointer (some ⟨p, 0, none⟩)] w fun e w' => e = .returned (.bool (decide (x.1 ≤ M))) ∧ Below w.heap.size w w' := by
  obtain ⟨xv, xk, xf, ⟨ta, tc⟩, xt⟩ := x
  show Calls Tryd.prog 108 #[.agg #[.int .i64 xv, .string xk, .int .i64 xf, .slice ta xt.length tc], .pointer (some ⟨p, 0, none⟩)] w fun e w' => e = .returned (.bool (decide (xv ≤ M))) ∧ Below w.heap.size w w'
  have X1 := Lib.hid ((Below.refl w.heap.size w).alloc (Nat.le_refl _) (.cells #[.int .i64 xv, .string xk, .int .i64 xf, .slice ta xt.length tc] 169))
  have L1 := Lib.hid (show Blk (w.alloc (.cells #[.int .i64 xv, .string xk, .int .i64 xf, .slice ta xt.length tc] 169)) w.heap.size 4 (rowL [.int .i64 xv, .string xk, .int .i64 xf, .slice ta xt.length tc]) from Blk.new' rfl rfl)
  have q0 := (X1.out.cell (p := ⟨p, 0, none⟩) hpl).trans hp
  have q1 := (X1.out.cell (p := ⟨g, 3, none⟩) hgl).trans hg
  clear hp hg hpl hgl
  go_enter Tryd.func108, Tryd.ntmps108
  go_upto_region 1 with fail
  obtain ⟨y, hy⟩ : ∃ y, w.heap.size = y := ⟨_, rfl⟩
  obtain ⟨w1, hw1⟩ : ∃ w1, w.alloc (.cells #[.int .i64 xv, .string xk, .int .i64 xf, .slice ta xt.length tc] 169) = w1 := ⟨_, rfl⟩
  rw [hw1] at X1 L1 q0 q1 ⊢
  rw [hy] at L1 ⊢
  clear hw1 hy
  have d0 : w1.cell? ⟨y, 0, none⟩ = some (.int .i64 xv) := L1.out.get 0 (by omega)
  go_quiet (fail)
  go_wp2_with fail
  go_ret
  exact ⟨rfl, below_drewI X1.out _⟩
set_option maxRecDepth 100000 in
set_option maxHeartbeats 16000000 in
theorem below14 (O : Nat → Prop) (w : World) (g : Nat) (T : Ta) (v : Int) (h : At14 O w g T) (hi : InvTa T) :
    Calls Tryd.prog 55 #[.pointer (some ⟨g, 0, none⟩), .int .i64 v] w fun e w' => e = .returned (.tuple #[]) ∧ ∃ O', At14 O' w' g (belowT T v) ∧ Keeps (fun b => ¬ O b) w w' ∧ ∀ b, O' b → O b ∨ w.heap.size ≤ b := by
  obtain ⟨L, wv, K, h1, h3⟩ := h
  have H := Lib.hid h1
  have HO := Lib.hid h3
  have HL := Lib.hid (show L.length ≤ 1000 by rw [h1.len]; have := hi.few; omega)
  obtain ⟨wa, wc, hwv⟩ := h1.shape
  subst hwv
  obtain ⟨s, d, n, un, V⟩ := T
  obtain ⟨M, hM⟩ : ∃ M, max un v = M := ⟨_, rfl⟩
  have HMM := Lib.hid hM
  have HIS := Lib.hid (show L.map nude = V from h1.is)
  have X1 := Lib.hid ((Below.refl w.heap.size w).alloc (Nat.le_refl _) (.cells #[.pointer (some ⟨g, 0, none⟩)] 92))
  have P1 := Lib.hid (show Blk (w.alloc (.cells #[.pointer (some ⟨g, 0, none⟩)] 92)) w.heap.size 1 (rowL [.pointer (some ⟨g, 0, none⟩)]) from Blk.new' rfl rfl)
  clear h1 h3 hi
  go_enter Tryd.func55, Tryd.ntmps55
  go_upto_region 1 with fail
  obtain ⟨p, hp⟩ : ∃ p, w.heap.size = p := ⟨_, rfl⟩
  have HP := Lib.hid hp
  obtain ⟨w1, hw1⟩ : ∃ w1, w.alloc (.cells #[.pointer (some ⟨g, 0, none⟩)] 92) = w1 := ⟨_, rfl⟩
  rw [hw1] at X1 P1 ⊢
  rw [hp] at P1 ⊢
  clear hw1 hp
  have H1 := Lib.hid (H.out.on X1.out)
  have HCC := Lib.hid (fun (wx : World) (hx : wx.heap = w1.heap) => show wx.cell? ⟨p, 0, none⟩ = some (.pointer (some ⟨g, 0, none⟩)) ∧ wx.cell? ⟨g, 3, none⟩ = some (.int .i64 un) from
    ⟨(P1.out.of_heap (by rw [hx])).get 0 (by omega), (H1.out.blk.blk.of_heap (show wx.heap[g]? = w1.heap[g]? by rw [hx])).get 3 (by omega)⟩)
  refine planE_abs (fun wx => wx.heap = w1.heap) 9 [(true, 0), (true, 1), (true, 2), (true, 3), (true, 4), (true, 5), (true, 6), (false, 7), (false, 8), (false, 9)] (by kernel_rfl) (by kernel_rfl) (fun _ _ d _ _ h => by cases d <;> exact h) fun w2 hs2 => ⟨hs2.heap, ?_⟩
  have Y2 := Lib.hid (show Below w1.heap.size w1 w2 from hs2.below _)
  have HS2 := Lib.hid hs2.heap
  clear hs2
  iterate 7 (refine pe_run _ ?_ rfl rfl ?_ ?_; rotate_left; (focus (intro w' hS; obtain ⟨c0, c1⟩ := HCC.out w' hS; go_simp; exact rfl)); simp only [Act.put, List.setIfInBounds_toArray, List.set_cons_zero, List.set_cons_succ, List.getElem_toArray, List.getElem_cons_zero, List.getElem_cons_succ])
  refine pe_value (w' := w2) _ (.pointer (some ⟨g, 0, none⟩)) rfl rfl (by go_simp) HS2.out ?_
  simp only [Act.put, List.setIfInBounds_toArray, List.set_cons_zero, List.set_cons_succ, List.getElem_toArray, List.getElem_cons_zero, List.getElem_cons_succ]
  refine pe_value (w' := w2) _ (.pointer (some ⟨g, 3, none⟩)) rfl rfl (by go_simp) HS2.out ?_
  simp only [Act.put, List.setIfInBounds_toArray, List.set_cons_zero, List.set_cons_succ, List.getElem_toArray, List.getElem_cons_zero, List.getElem_cons_succ]
  have H2 := Lib.hid (H1.out.on Y2.out)
  have P2 := Lib.hid (P1.out.below Y2.out P1.out.lt)
  obtain ⟨_, _, _, e3, _⟩ := H2.out.cells
  have f3 := H2.out.blk.blk.frz 3
  refine pe_last _ rfl ?_
  simp only [List.getElem_toArray, List.getElem_cons_zero, List.getElem_cons_succ]
  go_upto_region 2 with fail
  have H3 := Lib.hid (H2.out.under M)
  have U3 := Lib.hid (Upd.set w2 g 3 (.int .i64 M))
  have hpg : p ≠ g := by have := H.out.blk.lt; have := HP.out; omega
  have P3 := Lib.hid (P2.out.of_heap (U3.out.block p hpg))
  have HPG := Lib.hid hpg
  obtain ⟨w3, hw3⟩ : ∃ w3, w2.setCell ⟨g, 3, none⟩ (.int .i64 M) = w3 := ⟨_, rfl⟩
  rw [hw3] at H3 U3 P3 ⊢
  clear hw3 e3 f3 hpg hM
  have HCD := Lib.hid (fun (wx : World) (hx : wx.heap = w3.heap) => show wx.cell? ⟨p, 0, none⟩ = some (.pointer (some ⟨g, 0, none⟩)) ∧ wx.cell? ⟨g, 4, none⟩ = some (.slice wa L.length wc) from
    ⟨(P3.out.of_heap (by rw [hx])).get 0 (by omega), (H3.out.blk.blk.of_heap (show wx.heap[g]? = w3.heap[g]? by rw [hx])).get 4 (by omega)⟩)
  have HFIN := Lib.hid (fun (w5 w6 : World) (wv6 : Value) (hb5 : Below w3.heap.size w3 w5) (hown : w6.ownsRow 0 169 4 wv6 (L.filter fun x => !decide (x.1 ≤ M)).length (cellsG encX (L.filter fun x => !decide (x.1 ≤ M)))) (hk6 : Keeps (fun b => (Value.slice wa L.length wc).ownBlock ≠ some b) w5 w6) (hloc : ∀ b, wv6.ownBlock = some b → (Value.slice wa L.length wc).ownBlock = some b) =>
      show ∃ O', At14 O' (w6.setCell ⟨g, 4, none⟩ wv6) g (belowT ⟨s, d, n, un, V⟩ v) ∧ Keeps (fun b => ¬ O b) w (w6.setCell ⟨g, 4, none⟩ wv6) ∧ ∀ b, O' b → O b ∨ w.heap.size ≤ b from by
    have H5 := H3.out.on hb5
    obtain ⟨hn, hkn⟩ := H5.newrow (K' := K) hown hk6 (fun b hb => .inl (hloc b hb)) (fun x hx => (H5.tags x (List.mem_filter.1 hx).1).keep (hk6.sub fun b hb _ e => H5.kr b e hb)) (fun b hb => Nat.lt_of_lt_of_le (H5.lt b hb) hk6.b0.size) H5.kg (fun b hb => H5.kr b (hloc b hb))
    rw [below_votes, HIS.out] at hn
    refine ⟨OwnT g wv6 K, ⟨L.filter fun x => !decide (x.1 ≤ M), wv6, K, ?_, fun _ => Iff.rfl⟩, ?_, ?_⟩
    · show TqM _ _ _ g ⟨s, d, n, max un v, V.filter fun x => decide (max un v < x.1)⟩ _ _ _
      rw [HMM.out]
      exact hn
    · have hk1 : Keeps (fun b => b ≠ g) w w3 := ((Keeps.of X1.out).trans (Keeps.of (X1.out.trans (Y2.out.mono X1.out.size) |> fun _ => Y2.out))).trans (Keeps.upd' U3.out fun c => c rfl)
      refine ((hk1.trans (Keeps.of hb5)).sub fun b hb _ e => hb ((HO.out b).2 (.inl e))).trans (hkn.sub fun b hb _ => ⟨fun e => hb ((HO.out b).2 (.inr (.inl e))), fun e => hb ((HO.out b).2 (.inl e))⟩)
    · rintro b (h | h | h)
      · exact .inl ((HO.out b).2 (.inl h))
      · exact .inl ((HO.out b).2 (.inr (.inl (hloc b h))))
      · exact .inl ((HO.out b).2 (.inr (.inr h))))
  rcases H3.out.row.2 with ⟨hnil, h0⟩ | ⟨q, cap, cur, hsl, _, hh, hcp, hmx, _⟩
  · obtain rfl : L = [] := List.eq_nil_of_length_eq_zero h0
    injection hnil with e1 _ e3
    subst e1 e3
    clear h0
    refine planE_abs (fun wx => Below w3.heap.size w3 wx) 9 [(true, 0), (true, 1), (true, 2), (true, 3), (true, 4), (true, 5), (false, 6), (false, 7), (false, 8), (false, 9)] (by kernel_rfl) (by kernel_rfl) (fun _ _ d _ _ h => by cases d <;> exact h) fun w4 hs4 => ⟨hs4.below _, ?_⟩
    have Y4 := Lib.hid (hs4.below w3.heap.size)
    clear hs4
    iterate 6 (refine pe_run _ ?_ rfl rfl ?_ ?_; rotate_left; (focus (intro w' hS; have c0 := (hS.cell (p := ⟨p, 0, none⟩) P3.out.lt).trans (HCD.out w3 rfl).1; have c1 := (hS.cell (p := ⟨g, 4, none⟩) H3.out.blk.lt).trans (HCD.out w3 rfl).2; go_simp; exact rfl)); simp only [Act.put, List.setIfInBounds_toArray, List.set_cons_zero, List.set_cons_succ, List.getElem_toArray, List.getElem_cons_zero, List.getElem_cons_succ])
    refine pe_call (R := fun u w' => u = .slice none 0 0 ∧ Below w4.heap.size w4 w') _ rfl rfl (by go_simp) ((tdel_nil (.func (.func 108) #[] #[.pointer (some ⟨p, 0, none⟩)]) w4).mono fun e w' ⟨he, hb⟩ => ⟨_, he, rfl, hb⟩) (fun u w' ⟨_, hb⟩ => Y4.out.trans (hb.mono Y4.out.size)) fun u w5 hr => ?_
    obtain ⟨rfl, hb5⟩ := hr
    have Y5 := Lib.hid (Y4.out.trans (hb5.mono Y4.out.size))
    clear hb5
    simp only [Act.put, List.setIfInBounds_toArray, List.set_cons_zero, List.set_cons_succ, List.getElem_toArray, List.getElem_cons_zero, List.getElem_cons_succ]
    refine pe_value (w' := w5) _ (.pointer (some ⟨g, 0, none⟩)) rfl rfl (by go_simp) Y5.out ?_
    simp only [Act.put, List.setIfInBounds_toArray, List.set_cons_zero, List.set_cons_succ, List.getElem_toArray, List.getElem_cons_zero, List.getElem_cons_succ]
    refine pe_value (w' := w5) _ (.pointer (some ⟨g, 4, none⟩)) rfl rfl (by go_simp) Y5.out ?_
    simp only [Act.put, List.setIfInBounds_toArray, List.set_cons_zero, List.set_cons_succ, List.getElem_toArray, List.getElem_cons_zero, List.getElem_cons_succ]
    have H5 := Lib.hid (H3.out.on Y5.out)
    obtain ⟨_, _, _, _, e4⟩ := H5.out.cells
    have f4 := H5.out.blk.blk.frz 4
    refine pe_last _ rfl ?_
    simp only [List.getElem_toArray, List.getElem_cons_zero, List.getElem_cons_succ]
    go_wp2_with fail
    go_end0
    exact ⟨rfl, HFIN.out w5 w5 _ Y5.out (World.ownsRow_nil _ _ _ _) (Keeps.refl _ _) fun b hb => by cases hb⟩
  · injection hsl with e1 _ e3
    subst e1 e3
    have HMX := Lib.hid hmx
    have HRQ := Lib.hid (rowr_of_own (t := 169) encX_len vx0 H3.out.row)
    have HQG := Lib.hid (show q ≠ g from fun e => H3.out.gr (by rw [e]; rfl))
    have HQP := Lib.hid (show q ≠ p from fun e => by have := (H.out.row.lt q rfl).2; have := HP.out; omega)
    clear hh hcp hmx
    refine planE_abs (fun wx => wx.heap[p]? = w3.heap[p]? ∧ wx.heap[g]? = w3.heap[g]?) 9 [(true, 0), (true, 1), (true, 2), (true, 3), (true, 4), (true, 5), (false, 6), (false, 7), (false, 8), (false, 9)] (by kernel_rfl) (by kernel_rfl) (fun _ _ d _ _ h => by cases d <;> exact h) fun w4 hs4 => ⟨by rw [hs4.heap]; exact ⟨rfl, rfl⟩, ?_⟩
    have Y4 := Lib.hid (hs4.below w3.heap.size)
    have HZ4 := Lib.hid hs4.heap
    clear hs4
    iterate 6 (refine pe_run _ ?_ rfl rfl ?_ ?_; rotate_left; (focus (intro w' hS; have c0 := (World.cell?_of_block (a := ⟨p, 0, none⟩) hS.1).trans (HCD.out w3 rfl).1; have c1 := (World.cell?_of_block (a := ⟨g, 4, none⟩) hS.2).trans (HCD.out w3 rfl).2; go_simp; exact rfl)); simp only [Act.put, List.setIfInBounds_toArray, List.set_cons_zero, List.set_cons_succ, List.getElem_toArray, List.getElem_cons_zero, List.getElem_cons_succ])
    have HR4 := Lib.hid (HRQ.out.on (show w4.heap[q]? = w3.heap[q]? by rw [HZ4.out]))
    refine pe_call (R := fun u w' => u = .slice (some ⟨q, 0, none⟩) (L.filter fun x => !decide (x.1 ≤ M)).length wc ∧ Keep q w4 w' ∧ RowR 4 encX 169 w' q 0 (L.filter fun x => !decide (x.1 ≤ M)).length wc (fun i => (L.filter fun x => !decide (x.1 ≤ M)).getD i vx0)) _ rfl rfl (by go_simp)
      ((tdel_any L q 0 wc (.func (.func 108) #[] #[.pointer (some ⟨p, 0, none⟩)]) (fun x => decide (x.1 ≤ M)) w4 HR4.out HL.out fun x hx wx hk => ⟨_, _, _, rfl, own_below1, below1_any x p g M wx ?_ ?_ ?_ ?_⟩).mono fun e w' ⟨he, hk, hr⟩ => ⟨_, he, rfl, hk, hr⟩) (fun u w' ⟨_, hk, _⟩ => ?_) fun u w5 hr => ?_
    · exact (World.cell?_of_block (a := ⟨p, 0, none⟩) ((hk.block p (by rw [HZ4.out]; exact P3.out.lt) (Ne.symm HQP.out)).trans (by rw [HZ4.out]))).trans (HCD.out w3 rfl).1
    · exact (World.cell?_of_block (a := ⟨g, 3, none⟩) ((hk.block g (by rw [HZ4.out]; exact H3.out.blk.lt) (Ne.symm HQG.out)).trans (by rw [HZ4.out]))).trans (H3.out.blk.blk.get 3 (by omega))
    · exact Nat.lt_of_lt_of_le (by rw [HZ4.out]; exact P3.out.lt) hk.size
    · exact Nat.lt_of_lt_of_le (by rw [HZ4.out]; exact H3.out.blk.lt) hk.size
    · exact ⟨(hk.block p (by rw [HZ4.out]; exact P3.out.lt) (Ne.symm HQP.out)).trans (by rw [HZ4.out]), (hk.block g (by rw [HZ4.out]; exact H3.out.blk.lt) (Ne.symm HQG.out)).trans (by rw [HZ4.out])⟩
    obtain ⟨rfl, hk5, hr5⟩ := hr
    have K5 := Lib.hid hk5
    have R5 := Lib.hid hr5
    clear hk5 hr5
    simp only [Act.put, List.setIfInBounds_toArray, List.set_cons_zero, List.set_cons_succ, List.getElem_toArray, List.getElem_cons_zero, List.getElem_cons_succ]
    have HS5 := Lib.hid (show w5.heap[p]? = w3.heap[p]? ∧ w5.heap[g]? = w3.heap[g]? from ⟨(K5.out.block p (by rw [HZ4.out]; exact P3.out.lt) (Ne.symm HQP.out)).trans (by rw [HZ4.out]), (K5.out.block g (by rw [HZ4.out]; exact H3.out.blk.lt) (Ne.symm HQG.out)).trans (by rw [HZ4.out])⟩)
    refine pe_value (w' := w5) _ (.pointer (some ⟨g, 0, none⟩)) rfl rfl (by go_simp) HS5.out ?_
    simp only [Act.put, List.setIfInBounds_toArray, List.set_cons_zero, List.set_cons_succ, List.getElem_toArray, List.getElem_cons_zero, List.getElem_cons_succ]
    refine pe_value (w' := w5) _ (.pointer (some ⟨g, 4, none⟩)) rfl rfl (by go_simp) HS5.out ?_
    simp only [Act.put, List.setIfInBounds_toArray, List.set_cons_zero, List.set_cons_succ, List.getElem_toArray, List.getElem_cons_zero, List.getElem_cons_succ]
    have HB5 := Lib.hid (H3.out.blk.blk.of_heap (show w5.heap[g]? = w3.heap[g]? from (K5.out.block g (by rw [HZ4.out]; exact H3.out.blk.lt) (Ne.symm HQG.out)).trans (by rw [HZ4.out])))
    have e4 : w5.cell? ⟨g, 4, none⟩ = some (.slice (some ⟨q, 0, none⟩) L.length wc) := HB5.out.get 4 (by omega)
    have f4 := HB5.out.frz 4
    refine pe_last _ rfl ?_
    simp only [List.getElem_toArray, List.getElem_cons_zero, List.getElem_cons_succ]
    go_wp2_with fail
    go_end0
    refine ⟨rfl, HFIN.out w4 w5 _ Y4.out (own_of_rowr encX_len vx0 R5.out (Nat.zero_le _) HMX.out) ⟨K5.out.below (Nat.zero_le _) (Nat.zero_le _), fun b hb hl => K5.out.block b hl fun e => hb (by rw [e]; rfl)⟩ fun b hb => hb⟩
end Go.Proofs.YtegkhhegapnkpaaDoor
end
