/-
  The walk of the law LedgerAgain, by the bundle.
-/
import Derived.Test.YtbakceglaadfpaaDoorKLeLawP
open Go Go.RowKit
namespace LE
open FF JJ CC WW BB
/-- the entries behind more batches -/
def entM (E : List Rq) (M : List Bt) (i : Nat) : List Rq := appE E (flatB (M.take i))
theorem entM_zero (E : List Rq) (M : List Bt) : entM E M 0 = E := rfl
theorem entM_succ {E : List Rq} {M : List Bt} {i : Nat} (h : i < M.length) : entM E M (i + 1) = appE (entM E M i) (M.getD i bt0).2 := by
  unfold entM; rw [flatB_take h, appE_app]
theorem entM_ext {E : List Rq} {M : List Bt} (hM : ∀ i, i < M.length → FewB (M.getD i bt0).2) (i : Nat) (h : i ≤ M.length) : ∃ m, entM E M i = E ++ m ∧ m.length ≤ 8 * i := by
  obtain ⟨m, h1, h2⟩ := app_ext (flatB (M.take i)) E
  have := flatB_len M hM i h
  exact ⟨m, h1, by omega⟩
theorem entM_small {E : List Rq} {M : List Bt} (hE : SmallL E) (hM : ∀ i, i < M.length → FewB (M.getD i bt0).2) : ∀ i, i ≤ M.length → SmallL (entM E M i)
  | 0, _ => hE
  | i + 1, h => fun r hr => by
    rw [entM_succ (by omega)] at hr
    rcases app_sub hr with hr | hr
    · exact entM_small hE hM i (by omega) r hr
    · exact few_smallL (hM i (by omega)) r hr
/-- all entries hold what one batch brought, where its indexes say -/
theorem entB_ix {L : List Bt} {i k : Nat} (hi : i < L.length) (hk : k < (L.getD i bt0).2.length) : (appI (entB L i) (L.getD i bt0).2).getD k 0 = ixR (entB L L.length) (keyR ((L.getD i bt0).2.getD k r0)) := by
  have e1 : flatB L = flatB (L.take (i + 1)) ++ flatB (L.drop (i + 1)) := by
    unfold flatB; rw [← List.flatten_append, ← List.map_append, List.take_append_drop]
  obtain ⟨m, h1, _⟩ := app_ext (flatB (L.drop (i + 1))) (appE [] (flatB (L.take (i + 1))))
  have h2 := app_ix (L.getD i bt0).2 (entB L i) m k hk
  rw [show appE (entB L i) (L.getD i bt0).2 = appE [] (flatB (L.take (i + 1))) from (entB_succ hi).symm] at h2
  rw [h2, ← h1, ← appE_app, ← e1, entB_all]
theorem entB_known {L : List Bt} {i : Nat} (hi : i < L.length) : ∀ r ∈ (L.getD i bt0).2, 0 ≤ ixR (entB L L.length) (keyR r) := fun r hr => by
  rw [entB_all]
  refine app_has _ _ _ ?_
  unfold flatB
  exact List.mem_flatten.2 ⟨_, List.mem_map.2 ⟨_, getD_mem (d := bt0) hi, rfl⟩, hr⟩
end LE
namespace Go.Proofs.YtbakceglaadfpaaDoor
open LE ZZ RR FF JJ CC WW BB
/-- the first round: the box y holds what was told -/
def Fi13 (C : Code13) (w0 : World) (g y : Nat) (L : List Bt) (i : Nat) (wr : World) : Prop :=
  ∃ (Z : Nat → Prop) (f : Nat → Value), LgX C w0 (fun b => b = y ∨ Z b) g (entB L i) wr ∧ ¬ Z y ∧ Blk wr y 15 f ∧ w0.heap.size ≤ y ∧ ∀ j, j < i → Dep Z wr (fun w' => IntsAt w' (f j) (appI (entB L j) (L.getD j bt0).2))
theorem fi_zero (C : Code13) {w0 w : World} {g : Nat} {L : List Bt} (h : LgX C w0 (fun _ => False) g [] w) (t : TypeId) : Fi13 C w0 g w.heap.size L 0 (w.alloc (.cells #[.slice none 0 0, .slice none 0 0, .slice none 0 0, .slice none 0 0, .slice none 0 0, .slice none 0 0, .slice none 0 0, .slice none 0 0, .slice none 0 0, .slice none 0 0, .slice none 0 0, .slice none 0 0, .slice none 0 0, .slice none 0 0, .slice none 0 0] t)) := by
  have hb : Blk (w.alloc (.cells #[.slice none 0 0, .slice none 0 0, .slice none 0 0, .slice none 0 0, .slice none 0 0, .slice none 0 0, .slice none 0 0, .slice none 0 0, .slice none 0 0, .slice none 0 0, .slice none 0 0, .slice none 0 0, .slice none 0 0, .slice none 0 0, .slice none 0 0] t)) w.heap.size 15 (fun _ => .slice none 0 0) := Blk.new' rfl rfl
  exact ⟨fun _ => False, fun _ => .slice none 0 0, (h.more ((Below.refl w.heap.size w).alloc (Nat.le_refl _) _) (fun b => b = w.heap.size) (fun b hb => Nat.le_of_eq hb.symm)).less fun b hb2 => hb2.elim (fun e => .inr ⟨e, e ▸ hb.lt⟩) False.elim, id, hb, h.below.size, fun j hj => absurd hj (Nat.not_lt_zero _)⟩
theorem fi_step (C : Code13) {w0 wr w6 : World} {g y i : Nat} {L : List Bt} {Z Z' : Nat → Prop} {f : Nat → Value} {u : Value} (hi : i < L.length) (h2 : ¬ Z y) (h3 : Blk wr y 15 f) (h4 : w0.heap.size ≤ y) (h5 : ∀ j, j < i → Dep Z wr (fun w' => IntsAt w' (f j) (appI (entB L j) (L.getD j bt0).2)))
    (k1 : LgX C w0 (fun b => (b = y ∨ Z b) ∨ Z' b) g (appE (entB L i) (L.getD i bt0).2) w6) (k2 : Dep Z' w6 (fun w' => IntsAt w' u (appI (entB L i) (L.getD i bt0).2))) (k3 : ∀ b, Z' b → wr.heap.size ≤ b) (k4 : Keeps (fun b => b = y ∨ Z b) wr w6) : Fi13 C w0 g y L (i + 1) (w6.setCell ⟨y, i, none⟩ u) := by
  have hn : ¬ (Z y ∨ Z' y) := fun h => h.elim h2 fun h => by have := k3 y h; have := h3.lt; omega
  have B6 := h3.of_heap (k4.block y (.inl rfl) h3.lt)
  have hu : Keeps (fun b => Z b ∨ Z' b) w6 (w6.setCell ⟨y, i, none⟩ u) := Keeps.upd (Upd.set w6 y i u) fun b hb e => hn (e ▸ hb)
  refine ⟨fun b => Z b ∨ Z' b, put f i u, ?_, hn, B6.set i u, h4, fun j hj => ?_⟩
  · rw [entB_succ hi]
    exact (k1.less fun b hb => hb.elim (fun e => .inl (.inl e)) fun h => h.elim (fun h => .inl (.inr h)) .inr).upd (Upd.set w6 y i u) (.inl rfl) h4
  · by_cases h : j = i
    · subst h
      rw [put_same]
      exact (k2.more fun b hb _ => .inr hb).on hu
    · rw [put_other _ _ h]
      exact (((h5 j (by omega)).on (k4.sub fun b hb _ => .inr hb)).more fun b hb _ => .inl hb).on hu
set_option maxRecDepth 100000 in
set_option maxHeartbeats 16000000 in
theorem lawG13 (C : Code13) (L M : List Bt) (v v2 : Value) (w : World) (hT : Tabs w) (hv : BatsAt w v L) (hm : MemBt L) (hv2 : BatsAt w v2 M) (hm2 : MemBt M) :
    Calls Tryd.prog 5 #[v, v2] w fun e w' => e = .returned (.bool true) ∧ Below w.heap.size w w' := by
  have HT := Lib.hid hT
  have HV := Lib.hid hv
  have HM := Lib.hid hm
  have HV2 := Lib.hid hv2
  have HM2 := Lib.hid hm2
  obtain ⟨a0, cap, rfl, _⟩ := hv
  obtain ⟨b0, bap, rfl, _⟩ := hv2
  clear hT hm hm2
  go_enter Tryd.func5, Tryd.ntmps5
  go_wp2_with fail
  refine (awake13_any C w HT.out).mono ?_
  rintro e w1 ⟨rfl, hb1⟩
  have B1 := Lib.hid hb1
  clear hb1
  go_wp2_with fail
  refine (few13_any L _ 15 w1 (HV.out.later B1.out) HM.out).mono ?_
  rintro e w2 ⟨X, rfl, hX, hb2⟩
  have B2 := Lib.hid (B1.out.trans (hb2.mono B1.out.size))
  have HX := Lib.hid hX
  clear hX hb2
  cases X with
  | false =>
    go_wp2_with fail
    refine (awake13_any C w2 (tabs_on HT.out B2.out)).mono ?_
    rintro e wz ⟨rfl, hbz⟩
    have BZ := Lib.hid (B2.out.trans (hbz.mono B2.out.size))
    go_wp2_with fail
    go_ret
    exact ⟨rfl, BZ.out⟩
  | true =>
  have HL15 := Lib.hid (show L.length ≤ 15 by have := (HX.out rfl).1; omega)
  have HFEW := Lib.hid (fun i (hi : i < L.length) => (HX.out rfl).2 i hi (by have := HL15.out; omega))
  go_wp2_with fail
  refine (few13_any M _ 10 w2 (HV2.out.later B2.out) HM2.out).mono ?_
  rintro e w3 ⟨X2, rfl, hX, hb3⟩
  have B3 := Lib.hid (B2.out.trans (hb3.mono B2.out.size))
  have HX2 := Lib.hid hX
  clear hX hb3
  cases X2 with
  | false =>
    go_wp2_with fail
    refine (awake13_any C w3 (tabs_on HT.out B3.out)).mono ?_
    rintro e wz ⟨rfl, hbz⟩
    have BZ := Lib.hid (B3.out.trans (hbz.mono B3.out.size))
    go_wp2_with fail
    go_ret
    exact ⟨rfl, BZ.out⟩
  | true =>
  have HL10 := Lib.hid (show M.length ≤ 10 by have := (HX2.out rfl).1; omega)
  have HFEW2 := Lib.hid (fun i (hi : i < M.length) => (HX2.out rfl).2 i hi (by have := HL10.out; omega))
  go_wp2_with fail
  refine (lg_new C w w3 HT.out B3.out).mono ?_
  rintro e w4 ⟨g, rfl, h4, _⟩
  have H4 := Lib.hid (h4.less (Z' := fun _ => False) fun _ h => h.elim)
  clear h4
  have F0 := Lib.hid (fi_zero C (L := L) H4.out 47)
  obtain ⟨y, hy⟩ : ∃ y, w4.heap.size = y := ⟨_, rfl⟩
  have HYY := Lib.hid hy
  obtain ⟨w5, hw5⟩ : ∃ w5, w4.alloc (.cells #[.slice none 0 0, .slice none 0 0, .slice none 0 0, .slice none 0 0, .slice none 0 0, .slice none 0 0, .slice none 0 0, .slice none 0 0, .slice none 0 0, .slice none 0 0, .slice none 0 0, .slice none 0 0, .slice none 0 0, .slice none 0 0, .slice none 0 0] 47) = w5 := ⟨_, rfl⟩
  have HW5 := Lib.hid hw5
  rw [hw5, hy] at F0
  clear hy hw5
  go_upto_region 5 with fail
  rw [HW5.out, HYY.out]
  go_wp2_with fail
  go_loopw [7] (fun x wr => ∃ i : Nat, i ≤ L.length ∧ x = .int .i64 (i : Int) ∧ Fi13 C w g y L i wr) (fun x _ => L.length - (intOf x).toNat)
  case atStart => exact ⟨0, Nat.zero_le _, rfl, F0.out⟩
  case round =>
    obtain ⟨i, hi, rfl, hst⟩ := hrel
    have HST := Lib.hid hst
    have HI := Lib.hid hi
    have i0 : (0 : Int) ≤ (i : Int) := by omega
    have ib : (i : Int) ≤ 15 := by have := HL15.out; omega
    clear hst hi
    by_cases hlt : i < L.length
    · have hlt' : (i : Int) < (L.length : Int) := by omega
      have hlt15 : (i : Int) < 15 := by have := HL15.out; omega
      have HLT := Lib.hid hlt
      have HFW := Lib.hid (HFEW.out i hlt)
      obtain ⟨lb, loff, rfl, _, hrq, hat⟩ := bats_at HV.out i hlt
      obtain ⟨Z, f, h1, h2, h3, h4, h5⟩ := HST.out
      have K := Lib.hid (fun (w6 : World) (u : Value) (Z' : Nat → Prop) => fi_step C (g := g) (w6 := w6) (u := u) (Z' := Z') hlt h2 h3 h4 h5)
      have H1 := Lib.hid h1
      have H3 := Lib.hid h3
      have c0 := hat wr h1.below
      have HRQ := Lib.hid hrq
      obtain ⟨P, hP⟩ : ∃ P, L.getD i bt0 = P := ⟨_, rfl⟩
      rw [hP] at HRQ c0 HFW K
      clear hlt hat hP hrq h1 h2 h3 h4 h5
      go_wp2_with fail
      refine (lg_applyR C w wr _ g (entB L i) P.2 P.1 HT.out H1.out HRQ.out (by have := entB_len HFEW.out i HI.out; have := HL15.out; have := HI.out; omega) (Nat.le_trans HFW.out.1 (by omega)) (entB_small HFEW.out i HI.out) (few_smallL HFW.out)).mono ?_
      rintro e w6 ⟨u, Z', rfl, k1, k2, k3, k4⟩
      obtain ⟨ua, un, uc, rfl⟩ : ∃ a n c, u = .slice a n c := by
        obtain ⟨a, c, e, _⟩ := k2.now
        exact ⟨_, _, _, e⟩
      have F6 := Lib.hid (K.out _ _ _ k1 k2 k3 k4)
      have B6 := Lib.hid (H3.out.of_heap (k4.block y (.inl rfl) H3.out.lt))
      have fz := B6.out.frz i
      have cy := B6.out.get i (by have := HLT.out; have := HL15.out; omega)
      clear k1 k2 k3 k4 K c0
      go_wp2_with fail
      go_roundw
      case rel => exact ⟨i + 1, by have := HLT.out; omega, by go_num, F6.out⟩
      case measure => have := HLT.out; simp [intOf]; omega
    · obtain rfl : i = L.length := by have := HI.out; omega
      have hlt' : ¬ (L.length : Int) < (L.length : Int) := by omega
      clear hlt
      obtain ⟨Z, f, h1, h2, h3, h4, h5⟩ := HST.out
      have HLE := Lib.hid (show (entB L L.length).length ≤ 120 by have := entB_len HFEW.out L.length (Nat.le_refl _); have := HL15.out; omega)
      have HSM := Lib.hid (entB_small HFEW.out L.length (Nat.le_refl _))
      have HIX := Lib.hid (fun (i k : Nat) (hi : i < L.length) (hk : k < (L.getD i bt0).2.length) => entB_ix hi hk)
      have HKN := Lib.hid (fun (i : Nat) (hi : i < L.length) => app_known (L.getD i bt0).2 (entB L L.length) (entB_known hi))
      have H1 := Lib.hid h1
      have H3 := Lib.hid h3
      have H5 := Lib.hid h5
      have HYL := Lib.hid h4
      obtain ⟨E, hE⟩ : ∃ E, entB L L.length = E := ⟨_, rfl⟩
      rw [hE] at HLE HSM HIX HKN H1
      clear h1 h2 h3 h4 h5 hE
      go_wp2_with fail
      refine (lg_entriesR C w wr _ g E H1.out (by have := HLE.out; omega)).mono ?_
      rintro e w6 ⟨u, Z', rfl, _, k1, k2, _, hb6⟩
      obtain ⟨ua, uc, rfl⟩ : ∃ a c, u = .slice a E.length c := by
        obtain ⟨a, c, e, _⟩ := k2.now
        exact ⟨_, _, e⟩
      -- all that is kept from now on
      obtain ⟨Y, hY⟩ : ∃ Y : Nat → Prop, LgX C w Y g E w6 ∧ Y y ∧ Dep Y w6 (fun w' => ReqsAt w' (.slice ua E.length uc) E) ∧ ∀ j, j < L.length → Dep Y w6 (fun w' => IntsAt w' (f j) (appI (entB L j) (L.getD j bt0).2)) :=
        ⟨_, k1, .inl (.inl rfl), k2.more fun b hb _ => .inr hb, fun j hj => ((H5.out j hj).on (Keeps.of hb6)).more fun b hb _ => .inl (.inr hb)⟩
      have H6 := Lib.hid (show LgX C w Y g E w6 ∧ Blk w6 y 15 f ∧ Dep Y w6 (fun w' => ReqsAt w' (.slice ua E.length uc) E) ∧ ∀ j, j < L.length → Dep Y w6 (fun w' => IntsAt w' (f j) (appI (entB L j) (L.getD j bt0).2)) from ⟨hY.1, H3.out.below hb6 H3.out.lt, hY.2.2.1, hY.2.2.2⟩)
      have HYY := Lib.hid hY.2.1
      have HE1 := Lib.hid (show E.length ≤ 1000 by have := HLE.out; omega)
      have HDV := Lib.hid (show digV E (E.length : Int) = .tuple #[.string (digE E), .int .i64 0] by
        unfold digV
        rw [if_pos ⟨by omega, Int.le_refl _⟩, Int.toNat_natCast, List.take_length])
      have elb : (E.length : Int) ≤ 120 := by have := HLE.out; omega
      obtain ⟨T, hTT⟩ : ∃ T, digE E = T := ⟨_, rfl⟩
      have HTT := Lib.hid hTT
      rw [hTT] at HDV
      clear k1 k2 hb6 hY hTT
      go_wp2_with fail
      refine (lg_digest C w w6 _ g E _ HT.out H6.out.1 HE1.out HSM.out).mono ?_
      rintro e w7 ⟨rfl, hb7⟩
      rw [HDV.out]
      have H7 := Lib.hid (show LgX C w Y g E w7 ∧ Blk w7 y 15 f ∧ Dep Y w7 (fun w' => ReqsAt w' (.slice ua E.length uc) E) ∧ ∀ j, j < L.length → Dep Y w7 (fun w' => IntsAt w' (f j) (appI (entB L j) (L.getD j bt0).2)) from ⟨H6.out.1.on hb7, H6.out.2.1.below hb7 H6.out.2.1.lt, H6.out.2.2.1.on (Keeps.of hb7), fun j hj => (H6.out.2.2.2 j hj).on (Keeps.of hb7)⟩)
      clear hb7
      go_wp2_with fail
      go_loopw [11] (fun x wr => ∃ i : Nat, i ≤ L.length ∧ x = .int .i64 (i : Int) ∧ LgX C w Y g E wr ∧ Blk wr y 15 f ∧ Dep Y wr (fun w' => ReqsAt w' (.slice ua E.length uc) E) ∧ ∀ j, j < L.length → Dep Y wr (fun w' => IntsAt w' (f j) (appI (entB L j) (L.getD j bt0).2))) (fun x _ => L.length - (intOf x).toNat)
      case atStart => exact ⟨0, Nat.zero_le _, rfl, H7.out⟩
      case round =>
        obtain ⟨i, hi, rfl, hst⟩ := hrel
        have HST := Lib.hid hst
        have HI := Lib.hid hi
        have i0 : (0 : Int) ≤ (i : Int) := by omega
        have ib : (i : Int) ≤ 15 := by have := HL15.out; omega
        clear hst hi
        by_cases hlt : i < L.length
        · have hlt' : (i : Int) < (L.length : Int) := by omega
          have hlt15 : (i : Int) < 15 := by have := HL15.out; omega
          have HLT := Lib.hid hlt
          have HFW := Lib.hid (HFEW.out i hlt)
          obtain ⟨lb, loff, rfl, _, hrq, hat⟩ := bats_at HV.out i hlt
          have HRQ := Lib.hid hrq
          have c0 := hat wr HST.out.1.below
          have HKI := Lib.hid (HKN.out i hlt)
          have HIK := Lib.hid (fun k hk => HIX.out i k hlt hk)
          have HFI := Lib.hid (HST.out.2.2.2 i hlt)
          obtain ⟨P, hP⟩ : ∃ P, L.getD i bt0 = P := ⟨_, rfl⟩
          rw [hP] at HRQ c0 HFW HKI HIK HFI
          clear hlt hat hP hrq
          go_wp2_with fail
          refine (lg_apply C w wr _ g E P.2 P.1 HT.out HST.out.1 HRQ.out HE1.out (Nat.le_trans HFW.out.1 (by omega)) HSM.out (few_smallL HFW.out)).mono ?_
          rintro e w8 ⟨u8, rfl, k1, k2, k3⟩
          rw [HKI.out.1] at k1
          have H8 := Lib.hid (show LgX C w Y g E w8 ∧ Blk w8 y 15 f ∧ Dep Y w8 (fun w' => ReqsAt w' (.slice ua E.length uc) E) ∧ ∀ j, j < L.length → Dep Y w8 (fun w' => IntsAt w' (f j) (appI (entB L j) (L.getD j bt0).2)) from ⟨k1, HST.out.2.1.of_heap (k3.block y HYY.out HST.out.2.1.lt), HST.out.2.2.1.on k3, fun j hj => (HST.out.2.2.2 j hj).on k3⟩)
          have HU8 := Lib.hid k2
          have HF8 := Lib.hid (HFI.out.on k3).now
          have HQ8 := Lib.hid (show P.2.length ≤ 8 from HFW.out.1)
          have HIL1 := Lib.hid (appI_len P.2 E)
          have HIL2 := Lib.hid (appI_len P.2 (entB L i))
          obtain ⟨ga, gc, rfl⟩ : ∃ a c, u8 = .slice a P.2.length c := by
            obtain ⟨a, c, e, _⟩ := HU8.out
            rw [HIL1.out] at e; exact ⟨a, c, e⟩
          obtain ⟨fa, fc, hfs⟩ : ∃ a c, f i = .slice a P.2.length c := by
            obtain ⟨a, c, e, _⟩ := HF8.out
            rw [HIL2.out] at e; exact ⟨a, c, e⟩
          have HCY := Lib.hid (show ∀ wx, Below w8.heap.size w8 wx → wx.cell? ⟨y, i, none⟩ = some (.slice fa P.2.length fc) from fun wx hb => by
            rw [← hfs]; exact (H8.out.2.1.below hb H8.out.2.1.lt).get i (by have := HLT.out; have := HL15.out; omega))
          rw [hfs] at HF8
          have cy := HCY.out w8 (Below.refl _ _)
          have s1 : ((P.2.length : Int) != (P.2.length : Int)) = false := by simp
          have s2 : ((E.length : Int) != (E.length : Int)) = false := by simp
          clear k1 k2 k3 c0 hfs
          go_wp2_with fail
          refine (lg_len C w w8 _ g E H8.out.1 HE1.out).mono ?_
          rintro e w9 ⟨rfl, hb9⟩
          have Y9 := Lib.hid hb9
          clear hb9 cy
          go_wp2_with fail
          clear s1 s2
          go_loopw [13] (fun x wx => ∃ k : Nat, k ≤ P.2.length ∧ x = .int .i64 (k : Int) ∧ Below w8.heap.size w8 wx) (fun x _ => P.2.length - (intOf x).toNat)
          case atStart => exact ⟨0, Nat.zero_le _, rfl, Y9.out⟩
          case round =>
            obtain ⟨k, hk, rfl, hbk⟩ := hrel
            have HBK := Lib.hid hbk
            have HK := Lib.hid hk
            have k0 : (0 : Int) ≤ (k : Int) := by omega
            have kb : (k : Int) ≤ 8 := by have := HQ8.out; omega
            clear hk hbk
            by_cases hkt : k < P.2.length
            · have hkt' : (k : Int) < (P.2.length : Int) := by omega
              have HKT := Lib.hid hkt
              obtain ⟨gb, goff, rfl, hgc⟩ := ints_atL HU8.out k (by rw [HIL1.out]; exact hkt)
              obtain ⟨fb, foff, rfl, hfc⟩ := ints_atL HF8.out k (by rw [HIL2.out]; exact hkt)
              have e1 := HKI.out.2 k hkt
              have e2 := HIK.out k hkt
              obtain ⟨I, hI⟩ : ∃ I, ixR E (keyR (P.2.getD k r0)) = I := ⟨_, rfl⟩
              rw [hI] at e1 e2
              rw [e1] at hgc
              rw [e2] at hfc
              have HRD := Lib.hid (fun (wx : World) (hb : Below wr.heap.size wr wx) => (show wx.cell? ⟨gb, goff + k, none⟩ = some (.int .i64 I) ∧ wx.cell? ⟨fb, foff + k, none⟩ = some (.int .i64 I) ∧ wx.cell? ⟨y, i, none⟩ = some (.slice (some ⟨fb, foff, none⟩) P.2.length fc) from
                ⟨hgc wx (HBK.out.trans (hb.mono HBK.out.size)), hfc wx (HBK.out.trans (hb.mono HBK.out.size)), HCY.out wx (HBK.out.trans (hb.mono HBK.out.size))⟩))
              have s1 : (I != I) = false := by simp
              clear hkt hgc hfc e1 e2 hI
              go_wp2_with fail
              refine plan_abs (fun wx => Below wr.heap.size wr wx) [(true, 0), (true, 1), (true, 2), (true, 3), (true, 4), (true, 5), (true, 6), (true, 7), (true, 8), (true, 9), (true, 10)] (by kernel_rfl) (by kernel_rfl) (fun _ _ d _ _ h => by cases d <;> exact h) fun w10 hs10 => ⟨hs10.below _, ?_⟩
              have Y10 := Lib.hid (hs10.below wr.heap.size)
              clear hs10
              iterate 11 (refine pl_run _ ?_ rfl rfl ?_ ?_; rotate_left; (focus (intro w' hS; obtain ⟨q0, q1, q2⟩ := HRD.out w' hS; go_simp; exact rfl)); simp only [Act.put, List.setIfInBounds_toArray, List.set_cons_zero, List.set_cons_succ, List.getElem_toArray, List.getElem_cons_zero, List.getElem_cons_succ])
              refine pl_end ?_
              go_wp2_with fail
              go_roundw
              case rel => exact ⟨k + 1, by have := HKT.out; omega, by go_num, HBK.out.trans (Y10.out.mono HBK.out.size)⟩
              case measure => have := HKT.out; simp [intOf]; omega
            · obtain rfl : k = P.2.length := by have := HK.out; omega
              have hkt' : ¬ (P.2.length : Int) < (P.2.length : Int) := by omega
              clear hkt
              go_wp2_with fail
              go_roundw
              case rel => exact ⟨i + 1, by have := HLT.out; omega, by go_num, H8.out.1.on HBK.out, H8.out.2.1.below HBK.out H8.out.2.1.lt, H8.out.2.2.1.on (Keeps.of HBK.out), fun j hj => (H8.out.2.2.2 j hj).on (Keeps.of HBK.out)⟩
              case measure => have := HLT.out; simp [intOf]; omega
        · obtain rfl : i = L.length := by have := HI.out; omega
          have hlt' : ¬ (L.length : Int) < (L.length : Int) := by omega
          have H10 := Lib.hid (show LgX C w Y g (entM E M 0) wr ∧ Dep Y wr (fun w' => ReqsAt w' (.slice ua E.length uc) E) from ⟨HST.out.1, HST.out.2.2.1⟩)
          clear hlt
          go_wp2_with fail
          go_loopw [14] (fun x wx => ∃ k : Nat, k ≤ M.length ∧ x = .int .i64 (k : Int) ∧ LgX C w Y g (entM E M k) wx ∧ Dep Y wx (fun w' => ReqsAt w' (.slice ua E.length uc) E)) (fun x _ => M.length - (intOf x).toNat)
          case atStart => exact ⟨0, Nat.zero_le _, rfl, H10.out⟩
          case round =>
            obtain ⟨k, hk, rfl, hst⟩ := hrel
            have HS4 := Lib.hid hst
            have HK := Lib.hid hk
            have k0 : (0 : Int) ≤ (k : Int) := by omega
            have kb : (k : Int) ≤ 10 := by have := HL10.out; omega
            have HEX := Lib.hid (entM_ext (E := E) HFEW2.out k hk)
            have HML := Lib.hid (show (entM E M k).length ≤ 200 by
              obtain ⟨m, h1, h2⟩ := HEX.out
              rw [h1, List.length_append]; have := HLE.out; have := HL10.out; omega)
            have HMS := Lib.hid (entM_small HSM.out HFEW2.out k hk)
            clear hst hk
            by_cases hkt : k < M.length
            · have hkt' : (k : Int) < (M.length : Int) := by omega
              have HKT := Lib.hid hkt
              have HFW := Lib.hid (HFEW2.out k hkt)
              have HSU := Lib.hid (entM_succ (E := E) hkt)
              obtain ⟨lb, loff, rfl, _, hrq, hat⟩ := bats_at HV2.out k hkt
              obtain ⟨P, hP⟩ : ∃ P, M.getD k bt0 = P := ⟨_, rfl⟩
              have c0 := hat wr HS4.out.1.below
              have HRQ := Lib.hid hrq
              rw [hP] at HRQ c0 HFW HSU
              clear hkt hat hP hrq
              go_wp2_with fail
              refine (lg_apply C w wr _ g _ P.2 P.1 HT.out HS4.out.1 HRQ.out (by have := HML.out; omega) (Nat.le_trans HFW.out.1 (by omega)) HMS.out (few_smallL HFW.out)).mono ?_
              rintro e w11 ⟨u11, rfl, k1, _, k3⟩
              have H11 := Lib.hid (show LgX C w Y g (entM E M (k + 1)) w11 ∧ Dep Y w11 (fun w' => ReqsAt w' (.slice ua E.length uc) E) from ⟨by rw [HSU.out]; exact k1, HS4.out.2.on k3⟩)
              clear k1 k3 c0
              go_wp2_with fail
              go_roundw
              case rel => exact ⟨k + 1, by have := HKT.out; omega, by go_num, H11.out⟩
              case measure => have := HKT.out; simp [intOf]; omega
            · obtain rfl : k = M.length := by have := HK.out; omega
              have hkt' : ¬ (M.length : Int) < (M.length : Int) := by omega
              obtain ⟨m, hEm, _⟩ := HEX.out
              obtain ⟨E2, hE2⟩ : ∃ E2, entM E M M.length = E2 := ⟨_, rfl⟩
              rw [hE2] at HML HMS HS4 hEm
              have HTK := Lib.hid (show E2.take E.length = E by rw [hEm]; simp)
              have HE2 := Lib.hid (show E.length ≤ E2.length by rw [hEm, List.length_append]; omega)
              have HDV2 := Lib.hid (show digV E2 (E.length : Int) = .tuple #[.string T, .int .i64 0] by
                unfold digV
                rw [if_pos ⟨by omega, by have := HE2.out; omega⟩, Int.toNat_natCast, HTK.out, HTT.out])
              clear hkt hEm hE2
              go_wp2_with fail
              refine (lg_entriesR C w wr _ g E2 HS4.out.1 (by have := HML.out; omega)).mono ?_
              rintro e w11 ⟨u11, Z3, rfl, hcap, k1, k2, _, hb11⟩
              obtain ⟨na, nc, rfl⟩ : ∃ a c, u11 = .slice a E2.length c := by
                obtain ⟨a, c, e, _⟩ := k2.now
                exact ⟨_, _, e⟩
              have HNC := Lib.hid (hcap _ _ _ rfl)
              have H11 := Lib.hid (k1.less (Z' := Y) fun _ h => .inl h)
              have HNW := Lib.hid k2.now
              have HWS := Lib.hid (HS4.out.2.now.later hb11)
              clear k1 k2 hb11 hcap
              go_wp2_with fail
              refine (lg_digest C w w11 _ g E2 _ HT.out H11.out (by have := HML.out; omega) HMS.out).mono ?_
              rintro e w12 ⟨rfl, hb12⟩
              rw [HDV2.out]
              have Y12 := Lib.hid hb12
              have d1 : (E.length : Int) ≤ (E2.length : Int) := by have := HE2.out; omega
              have d2 : decide ((E.length : Int) ≤ (E2.length : Int)) = true := decide_eq_true d1
              clear hb12
              go_wp2_with (with_reducible refine hold_slice11 rfl ?_)
              refine wpl_slice_hi11 (.tmp 125) (.tmp 127) (by rfl) rfl (by rfl) (by rfl) (under_le _) (size_le _) (by have := HE2.out; have := HNC.out; omega) ?_
              go_wp2_with fail
              refine (rsame11_any (E2.take E.length) E _ _ w12 (reqs_takeL (HNW.out.later Y12.out) E.length _ HE2.out) (HWS.out.later Y12.out) (by rw [HTK.out]; exact HE1.out)).mono ?_
              rintro e w13 ⟨rfl, hb13⟩
              have BZ := Lib.hid (H11.out.below.trans ((Y12.out.trans (hb13.mono Y12.out.size)).mono H11.out.below.size))
              rw [HTK.out, decide_eq_true rfl]
              have s1 : (T.toList == T.toList) = true := by simp
              clear hb13
              go_wp2_with fail
              go_ret
              exact ⟨rfl, BZ.out⟩
end Go.Proofs.YtbakceglaadfpaaDoor
