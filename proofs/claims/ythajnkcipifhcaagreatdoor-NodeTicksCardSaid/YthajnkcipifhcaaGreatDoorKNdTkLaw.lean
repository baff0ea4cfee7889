/-
  The law NodeTicks, walked (layer 18).
-/
import Derived.Test.YthajnkcipifhcaaGreatDoorKNoFill
open Go Go.RowKit
namespace ND
open IN NO QU GA TI TA LE ZZ YY TT SS RR FF JJ CC MM WW BB
open Go.Proofs.YthajnkcipifhcaaGreatDoor
/-- a node that heard ticks alone, with nothing to send -/
def TkW (w0 : World) (b l n : Nat) (v c : Int) (w : World) : Prop := ∃ x O, NdAt O w b l x ∧ Tk n v c x ∧ x.out = [] ∧ Below w0.heap.size w0 w ∧ ∀ d, O d → w0.heap.size ≤ d
/-- the same, with k messages to send -/
def TkS (w0 : World) (b l n : Nat) (v c : Int) (k : Nat) (w : World) : Prop := ∃ x O, NdAt O w b l x ∧ Tk n v c x ∧ x.out.length = k ∧ (∀ i, i < k → TellsV v i (x.out.getD i ms0)) ∧ Below w0.heap.size w0 w ∧ ∀ d, O d → w0.heap.size ≤ d
theorem TkW.below {w0 w : World} {b l n : Nat} {v c : Int} (h : TkW w0 b l n v c w) : Below w0.heap.size w0 w := by obtain ⟨_, _, _, _, _, h, _⟩ := h; exact h
theorem TkW.on {w0 w w' : World} {b l n : Nat} {v c : Int} (h : TkW w0 b l n v c w) (hb : Below w.heap.size w w') : TkW w0 b l n v c w' := by
  obtain ⟨x, O, h1, h2, h3, h4, h5⟩ := h
  exact ⟨x, O, h1.on hb, h2, h3, h4.trans (hb.mono h4.size), h5⟩
theorem low_nxt {w0 w w' : World} {O O' : Nat → Prop} (hb : Below w0.heap.size w0 w) (ho : ∀ d, O d → w0.heap.size ≤ d) (hk : Keeps (fun c => ¬ O c) w w') (hn : ∀ c, O' c → O c ∨ w.heap.size ≤ c) : Below w0.heap.size w0 w' ∧ ∀ d, O' d → w0.heap.size ≤ d :=
  ⟨low_open hb hk ho, fun d hd => (hn d hd).elim (ho d) fun h => Nat.le_trans hb.size h⟩
end ND
namespace Go.Proofs.YthajnkcipifhcaaGreatDoor
open ND IN NO QU GA TI TA LE ZZ YY TT SS RR FF JJ CC MM WW BB
theorem tkw_tick {w0 w : World} {b l n : Nat} {v c : Int} (h : TkW w0 b l n v c w) (hT : Tabs w0) (hn : 1 ≤ n ∧ n ≤ 7) (hv : 1 ≤ v ∧ v ≤ 1000) (hc : 1 ≤ c ∧ c ≤ 16) :
    Calls Tryz.prog 19 #[.pointer (some ⟨b, 0, none⟩)] w fun e w' => e = .returned (.tuple #[]) ∧ (1 < c → TkS w0 b l n v (c - 1) 0 w') ∧ (¬ 1 < c → TkS w0 b l n (v + 1) (spanF v) n w') := by
  obtain ⟨x, O, h1, h2, h3, h4, h5⟩ := h
  refine (tick18m h1 (by rw [h2.ti]; unfold InvT; simp only; omega) h2.ta (by rw [h2.sd]; decide) (by rw [h2.hi]; show firstD.size ≤ 1000; rw [CC.firstD_size]; omega) (by rw [h2.hi]; exact Nat.zero_le _) (by rw [h2.hi]; exact fun p hp => nomatch hp) (by rw [h3]; exact Nat.zero_le _) (by rw [h2.n]; omega) (tabs_on hT h4) (fun d hd => notab_of hT d (h5 d hd))).mono ?_
  rintro e w' ⟨he, O', k1, k2, k3⟩
  obtain ⟨j1, j2⟩ := low_nxt h4 h5 k2 k3
  refine ⟨he, fun hlt => ?_, fun hlt => ?_⟩
  · obtain ⟨t1, t2⟩ := tk_stay h2 hv hlt
    exact ⟨_, O', k1, t1, by rw [t2, h3]; rfl, fun i hi => absurd hi (Nat.not_lt_zero i), j1, j2⟩
  · obtain ⟨t1, L, t2, t3, t4⟩ := tk_rise h2 hv hlt
    rw [h3, List.nil_append] at t2
    exact ⟨_, O', k1, t1, by rw [t2, t3], fun i hi => by rw [t2]; exact t4 i hi, j1, j2⟩
theorem tks_send {w0 w : World} {b l n k : Nat} {v c : Int} (h : TkS w0 b l n v c k w) :
    Calls Tryz.prog 13 #[.pointer (some ⟨b, 0, none⟩)] w fun e w' => ∃ (a : Option Addr) (m : Nat) (L : List Mo), e = .returned (.slice a L.length m) ∧ TkW w0 b l n v c w' ∧ L.length = k ∧ (∀ i, i < k → TellsV v i (msOf (L.getD i mo0).m)) ∧ MsM w' (.slice a L.length m) L := by
  obtain ⟨x, O, h1, h2, h3, h4, h5, h6⟩ := h
  refine (send18 h1).mono ?_
  rintro e w' ⟨a, m, L, C, he, hL, hl, hd, hC, O', k1, k2, k3, k4⟩
  have e3 : L.length = k := by rw [← h3, ← hL, List.length_map]
  refine ⟨a, m, L, he, ⟨_, O', k1, tk_sent h2, rfl, (low_nxt h5 h6 k2 fun c hc => .inl (k3 c hc))⟩, e3, fun i hi => ?_, hd.now⟩
  have h := h4 i hi
  rw [← hL] at h
  rw [List.getD_eq_getElem?_getD, List.getElem?_map, List.getElem?_eq_getElem (by omega)] at h
  rw [List.getD_eq_getElem?_getD, List.getElem?_eq_getElem (by omega)]
  exact h
theorem tkw_view {w0 w : World} {b l n : Nat} {v c : Int} (h : TkW w0 b l n v c w) (hv : 1 ≤ v ∧ v ≤ 1001) (hc : 1 ≤ c ∧ c ≤ 16) :
    Calls Tryz.prog 14 #[.pointer (some ⟨b, 0, none⟩)] w fun e w' => e = .returned (.int .i64 v) ∧ Below w.heap.size w w' := by
  obtain ⟨x, O, h1, h2, h3, h4, h5⟩ := h
  have e : x.ti.1 = v := by rw [h2.ti]
  rw [← e]
  exact view18 h1 (by rw [h2.ti]; unfold InvT; simp only; omega)
theorem tkw_state {w0 w : World} {b l n : Nat} {v c : Int} (h : TkW w0 b l n v c w) :
    Calls Tryz.prog 17 #[.pointer (some ⟨b, 0, none⟩)] w fun e w' => e = .returned (.agg #[.int .i64 0, .int .i64 0]) ∧ Below w.heap.size w w' := by
  obtain ⟨x, O, h1, h2, h3, h4, h5⟩ := h
  have e : x.st = (0, 0) := h2.st
  have h := state18 h1
  rw [e] at h
  exact h
set_option maxRecDepth 100000 in
set_option pp.maxSteps 4000 in
set_option maxHeartbeats 16000000 in
theorem lawK18 (a bb : Nat) (w : World) (ha : a < 256) (hbb : bb < 256) (hT : Tabs w) :
    Calls Tryz.prog 4 #[.int .u8 (a : Int), .int .u8 (bb : Int)] w fun e w' => e = .returned (.bool true) ∧ Below w.heap.size w w' := by
  have HT := Lib.hid hT
  have HBB := Lib.hid hbb
  clear hT
  go_enter Tryz.func4, Tryz.ntmps4
  go_wp2_with fail
  refine (awake18_any w HT.out).mono ?_
  rintro e w1 ⟨rfl, hb1⟩
  have B1 := Lib.hid hb1
  clear hb1
  obtain ⟨n0, hn0⟩ : ∃ n0, a % 7 = n0 := ⟨_, rfl⟩
  have HN0 := Lib.hid (show n0 < 7 by omega)
  have hr : ((a : Nat) : Int).tmod 7 = (n0 : Int) := by rw [Int.tmod_eq_emod_of_nonneg (by omega)]; omega
  have m0 : (0 : Int) ≤ (n0 : Int) := by omega
  have m7 : (n0 : Int) < 7 := by omega
  clear hn0
  go_wp2_with fail
  clear hr
  refine (new9 (w := w1)).mono ?_
  rintro e w2 ⟨l, Ol, rfl, hl, hol, hb2⟩
  have B2 := Lib.hid (B1.out.trans (hb2.mono B1.out.size))
  have HL := Lib.hid (And.intro (show At9 Ol w2 l lo0 from hl) fun b hb => Nat.le_trans B1.out.size (hol b hb))
  clear hl hol hb2
  go_wp2_with fail
  obtain ⟨n, hn⟩ : ∃ n : Nat, (n : Int) = 1 + (n0 : Int) := ⟨n0 + 1, by omega⟩
  rw [← hn]
  have HN := Lib.hid (show 1 ≤ n ∧ n ≤ 7 by have := HN0.out; omega)
  clear hn
  refine (open18_0 _ 0 (n : Int) l Ol w2 HL.out.1 (by have := HN.out; omega) (by have := HN.out; omega) (HT.out.below B2.out (Nat.le_refl _)) w.heap.size B2.out.size (notab18 HT.out) (fun b hb => notab18 HT.out b (HL.out.2 b hb))).mono ?_
  rintro e w3 ⟨x, rfl, O3, h3, hk3, ho3⟩
  have H3 := Lib.hid (show TkW w x l n 1 4 w3 from ⟨_, O3, h3, tk_new n lo0, rfl, low_nxt B2.out HL.out.2 hk3 ho3⟩)
  clear h3 hk3 ho3
  go_wp2_with fail
  go_loopw [8, 9, 10, 11] (fun s8 s9 s10 s11 wr => ∃ (i : Nat) (v c z : Int), i ≤ bb ∧ 1 ≤ v ∧ v ≤ (i : Int) + 1 ∧ 1 ≤ c ∧ c ≤ 16 ∧ s8 = .int .i64 v ∧ s9 = .int .i64 c ∧ s10 = .int .i64 z ∧ s11 = .int .i64 (i : Int) ∧ z = spanF (v - 1) ∧ TkW w x l n v c wr) (fun _ _ _ u _ => bb - (intOf u).toNat)
  case atStart => exact ⟨0, 1, 4, 4, Nat.zero_le _, by omega, by omega, by omega, by omega, rfl, rfl, rfl, rfl, rfl, H3.out⟩
  case round =>
    obtain ⟨i, v, c, z, hi, hv1, hv2, hc1, hc2, rfl, rfl, rfl, rfl, hz, hr⟩ := hrel
    have XR := Lib.hid hr
    have HV := Lib.hid (And.intro hi (And.intro hv1 (And.intro hv2 (And.intro hc1 hc2))))
    have HZ := Lib.hid hz
    have z4 : 4 ≤ z ∧ z ≤ 16 := by rw [hz]; exact span_bound _
    obtain ⟨z4, z16⟩ := z4
    have i0 : (0 : Int) ≤ (i : Int) := by omega
    have ib : (i : Int) ≤ 255 := by have := HBB.out; omega
    have b0 : (0 : Int) ≤ (bb : Int) := by omega
    have b255 : (bb : Int) ≤ 255 := by have := HBB.out; omega
    clear hr hz
    by_cases hlt : i < bb
    case neg =>
      have hlt' : ¬ (i : Int) < (bb : Int) := by omega
      clear hlt hi hv1 hv2
      go_wp2_with fail
      refine (tkw_state XR.out).mono ?_
      rintro e w4 ⟨rfl, hb4⟩
      have X4 := Lib.hid (XR.out.on hb4)
      clear hb4
      go_wp2_with fail
      change Oper.upon _ _ _ _ _ (Result.ok (Next.value (.int .i64 0)) w4)
      go_wp2_with fail
      go_ret
      exact ⟨rfl, X4.out.below⟩
    have hlt' : (i : Int) < (bb : Int) := by omega
    have HLT := Lib.hid hlt
    clear hlt hi
    go_wp2_with fail
    refine (tkw_tick XR.out HT.out HN.out ⟨by omega, by omega⟩ ⟨hc1, hc2⟩).mono ?_
    rintro e w4 ⟨rfl, hst, hri⟩
    have HST := Lib.hid hst
    have HRI := Lib.hid hri
    clear hst hri
    go_wp2_with fail
    by_cases h1 : 1 < c
    · have HW := Lib.hid (HST.out h1)
      have e1 : IntKind.i64.wrap (c - 1) = c - 1 := by rw [IntKind.wrap_i64]; omega
      have q1 : (c - 1 == 0) = false := by rw [beq_eq_false_iff_ne]; omega
      refine (tks_send HW.out).mono ?_
      rintro e w5 ⟨sa, sm, L, rfl, hx5, hL, hTL, hM⟩
      have X5 := Lib.hid hx5
      have e0 : (L.length : Int) = 0 := by omega
      have HC := Lib.hid h1
      clear hx5 hTL hM h1
      go_wp2_with fail
      refine (tkw_view X5.out ⟨by omega, by omega⟩ (by have := HC.out; omega)).mono ?_
      rintro e w6 ⟨rfl, hb6⟩
      have X6 := Lib.hid (X5.out.on hb6)
      clear hb6
      have q2 : (v != v) = false := by rw [bne_eq_false_iff_eq]
      go_wp2_with fail
      go_loopw [14] (fun u wx => u = .int .i64 0 ∧ TkW w x l n v (c - 1) wx) (fun _ _ => 0)
      case atStart => exact ⟨rfl, X6.out⟩
      case round =>
        obtain ⟨rfl, hx⟩ := hrel
        have X7 := Lib.hid hx
        clear hx
        go_wp2_with fail
        go_roundw
        case rel => exact ⟨i + 1, v, c - 1, z, by have := HLT.out; omega, HV.out.2.1, by have := HV.out.2.2.1; omega, by have := HC.out; omega, by omega, rfl, rfl, rfl, by go_num, HZ.out, X7.out⟩
        case measure => have := HLT.out; simp [intOf]; omega
    · have HW := Lib.hid (HRI.out (by omega))
      obtain rfl : c = 1 := by omega
      have e2 : IntKind.i64.wrap (v + 1) = v + 1 := by rw [IntKind.wrap_i64]; omega
      have e3 : IntKind.i64.wrap (2 * z) = 2 * z := by rw [IntKind.wrap_i64]; omega
      obtain ⟨z', hz'⟩ : ∃ z', min (2 * z) 16 = z' := ⟨_, rfl⟩
      have HZ' := Lib.hid (show spanF v = z' by rw [← hz', HZ.out, span_two v (by omega)])
      have hzb : 4 ≤ z' ∧ z' ≤ 16 := by omega
      refine (tks_send HW.out).mono ?_
      rintro e w5 ⟨sa, sm, L, rfl, hx5, hL, hTL, hM⟩
      have X5 := Lib.hid hx5
      have HTL := Lib.hid hTL
      have HM := Lib.hid hM
      have HLN := Lib.hid hL
      clear hx5 hTL hM h1
      go_wp2_with fail
      refine (tkw_view X5.out ⟨by omega, by omega⟩ (by rw [HZ'.out]; omega)).mono ?_
      rintro e w6 ⟨rfl, hb6⟩
      have X6 := Lib.hid (X5.out.on hb6)
      have B6 := Lib.hid hb6
      clear hb6
      have q2 : (v + 1 != v + 1) = false := by rw [bne_eq_false_iff_eq]
      have q3 : ((n : Int) != (n : Int)) = false := by rw [bne_eq_false_iff_eq]
      have n0' : (0 : Int) ≤ (n : Int) := by omega
      have n7' : (n : Int) ≤ 7 := by have := HN.out; omega
      go_wp2_with fail
      clear q3
      go_loopw [14] (fun u wx => ∃ j : Nat, j ≤ n ∧ u = .int .i64 (j : Int) ∧ TkW w x l n (v + 1) (spanF v) wx ∧ Below w5.heap.size w5 wx) (fun u _ => n - (intOf u).toNat)
      case atStart => exact ⟨0, Nat.zero_le _, rfl, X6.out, B6.out⟩
      case round =>
        obtain ⟨j, hj, rfl, hx, hbx⟩ := hrel
        have XX := Lib.hid hx
        have BX := Lib.hid hbx
        have j0 : (0 : Int) ≤ (j : Int) := by omega
        clear hx hbx
        by_cases hjl : j < n
        case neg =>
          have hjl' : ¬ (j : Int) < (n : Int) := by omega
          clear hjl hj
          go_wp2_with fail
          go_roundw
          case rel => exact ⟨i + 1, v + 1, z', z', by have := HLT.out; omega, by omega, by have := HV.out.2.2.1; omega, by omega, by omega, rfl, rfl, rfl, by go_num, by rw [show v + 1 - 1 = v by omega]; exact HZ'.out.symm, by rw [← HZ'.out]; exact XX.out⟩
          case measure => have := HLT.out; simp [intOf]; omega
        have hjl' : (j : Int) < (n : Int) := by omega
        have HJ := Lib.hid hjl
        have HTJ := Lib.hid (HTL.out j hjl)
        obtain ⟨lb, loff, rfl, _, hlb, hat, hma⟩ := msM_at HM.out j (by have := HLN.out; omega)
        obtain ⟨P, hP⟩ : ∃ P, L.getD j mo0 = P := ⟨_, rfl⟩
        rw [hP] at hat hma HTJ
        have HAT := Lib.hid (hat _ BX.out)
        have HMA := Lib.hid (hma.later BX.out)
        have c0 := HAT.out 0 (by omega)
        have c3 := HAT.out 3 (by omega)
        have c2 := HAT.out 2 (by omega)
        have c11 := HAT.out 11 (by omega)
        rw [Nat.add_zero] at c0
        rw [HMA.out.y0, show P.m.k = 3 from HTJ.out.k] at c0
        rw [HMA.out.y3, show P.m.v = v + 1 from HTJ.out.v] at c3
        rw [HMA.out.y2, show P.m.node = (j : Int) from HTJ.out.node] at c2
        rw [HMA.out.y11, show P.m.c = firstC from HTJ.out.c] at c11
        have q4 : ((j : Int) != (j : Int)) = false := by rw [bne_eq_false_iff_eq]
        clear hjl hj hat hma hP hlb
        go_wp2_with (with_reducible refine hold_load (.tmp 100) rfl ?_)
        refine wpl_load_at (.tmp 100) lb (loff + j * 21) 21 P.f (by rfl) rfl (by rfl) (agg_msg _) (size_msg _) HAT.out ?_
        have HRT := Lib.hid (HTJ.out.right (by omega) (by omega))
        have HMM := Lib.hid (show MemM P.m.x P.m.c P.m.s from by
          rw [show P.m.x = bdNo from HTJ.out.x, show P.m.c = firstC from HTJ.out.c, show P.m.s = (0, []) from HTJ.out.s]
          exact ⟨⟨Nat.zero_le _, fun p hp => nomatch hp⟩, Nat.zero_le _, Nat.zero_le _, ⟨Nat.zero_le _, fun p hp => nomatch hp⟩, by show firstD.size ≤ _; rw [CC.firstD_size]; omega, Nat.zero_le _⟩)
        go_wp2_with fail
        refine (rightmsg_is true _ P.f _ _ _ _ _ _ _ _ _ _ _ _ _ _ _ HMA.out HMM.out HRT.out).mono ?_
        rintro e w7 ⟨rfl, hb7⟩
        have X7 := Lib.hid (And.intro (XX.out.on hb7) (BX.out.trans (hb7.mono BX.out.size)))
        clear hb7 c0 c2 c3 c11
        go_wp2_with fail
        go_roundw
        case rel => exact ⟨j + 1, by have := HJ.out; omega, by go_num, X7.out.1, X7.out.2⟩
        case measure => have := HJ.out; simp [intOf]; omega
end Go.Proofs.YthajnkcipifhcaaGreatDoor
