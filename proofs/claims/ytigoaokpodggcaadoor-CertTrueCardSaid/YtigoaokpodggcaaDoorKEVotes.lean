/-
  The certificate of nodes' votes: it is right; all of its signatures hold; it holds just if they are a quorum. No walk is here.
-/
import Derived.Test.YtigoaokpodggcaaDoorKEMake
import Derived.Test.YtigoaokpodggcaaDoorKEMkMath
import Derived.Test.YtigoaokpodggcaaDoorKELawF
import Derived.Test.YtigoaokpodggcaaDoorKWRef1
import Derived.Test.YtigoaokpodggcaaDoorKERefS
import Derived.Test.YtigoaokpodggcaaDoorKERefH
import Derived.Test.YtigoaokpodggcaaDoorKLLawC
section
open Go Go.RowKit
namespace CC
open MM WW BB
theorem keep4b {base g1 g2 : Nat} {v1 v2 v3 v4 : Value} {w W w1 : World} (h : W.cell? ⟨g1, 0, none⟩ = some v1 ∧ W.cell? ⟨g1, 1, none⟩ = some v2 ∧ W.cell? ⟨g2, 0, none⟩ = some v3 ∧ W.cell? ⟨g2, 1, none⟩ = some v4 ∧ Below base w W ∧ base ≤ W.heap.size) (hb : Below W.heap.size W w1) :
    w1.cell? ⟨g1, 0, none⟩ = some v1 ∧ w1.cell? ⟨g1, 1, none⟩ = some v2 ∧ w1.cell? ⟨g2, 0, none⟩ = some v3 ∧ w1.cell? ⟨g2, 1, none⟩ = some v4 ∧ Below base w w1 ∧ base ≤ w1.heap.size := by
  obtain ⟨h1, h2, h3, h4, h9, h10⟩ := h
  have key : ∀ {g o : Nat} {v : Value}, W.cell? ⟨g, o, none⟩ = some v → w1.cell? ⟨g, o, none⟩ = some v := fun {g o v} hc => (hb.cell (p := ⟨g, o, none⟩) (World.block_lt_of_cell? W _ hc)).trans hc
  exact ⟨key h1, key h2, key h3, key h4, h9.trans (hb.mono h10), Nat.le_trans h10 hb.size⟩
theorem four_below {base g1 g2 : Nat} {v1 v2 v3 v4 : Value} {w W : World} (h : W.cell? ⟨g1, 0, none⟩ = some v1 ∧ W.cell? ⟨g1, 1, none⟩ = some v2 ∧ W.cell? ⟨g2, 0, none⟩ = some v3 ∧ W.cell? ⟨g2, 1, none⟩ = some v4 ∧ Below base w W ∧ base ≤ W.heap.size) : Below base w W := h.2.2.2.2.1
theorem keep5d {base a0 a1 a2 a3 a4 b0 b1 b2 b3 b4 : Nat} {v0 v1 v2 v3 v4 : Value} {w W w1 : World} (h : W.cell? ⟨a0, b0, none⟩ = some v0 ∧ W.cell? ⟨a1, b1, none⟩ = some v1 ∧ W.cell? ⟨a2, b2, none⟩ = some v2 ∧ W.cell? ⟨a3, b3, none⟩ = some v3 ∧ W.cell? ⟨a4, b4, none⟩ = some v4 ∧ Below base w W ∧ base ≤ W.heap.size) (hb : Below W.heap.size W w1) :
    w1.cell? ⟨a0, b0, none⟩ = some v0 ∧ w1.cell? ⟨a1, b1, none⟩ = some v1 ∧ w1.cell? ⟨a2, b2, none⟩ = some v2 ∧ w1.cell? ⟨a3, b3, none⟩ = some v3 ∧ w1.cell? ⟨a4, b4, none⟩ = some v4 ∧ Below base w w1 ∧ base ≤ w1.heap.size := by
  obtain ⟨h0, h1, h2, h3, h4, h9, h10⟩ := h
  have key : ∀ {g o : Nat} {v : Value}, W.cell? ⟨g, o, none⟩ = some v → w1.cell? ⟨g, o, none⟩ = some v := fun {g o v} hc => (hb.cell (p := ⟨g, o, none⟩) (World.block_lt_of_cell? W _ hc)).trans hc
  exact ⟨key h0, key h1, key h2, key h3, key h4, h9.trans (hb.mono h10), Nat.le_trans h10 hb.size⟩
theorem five_below {base a0 a1 a2 a3 a4 b0 b1 b2 b3 b4 : Nat} {v0 v1 v2 v3 v4 : Value} {w W : World} (h : W.cell? ⟨a0, b0, none⟩ = some v0 ∧ W.cell? ⟨a1, b1, none⟩ = some v1 ∧ W.cell? ⟨a2, b2, none⟩ = some v2 ∧ W.cell? ⟨a3, b3, none⟩ = some v3 ∧ W.cell? ⟨a4, b4, none⟩ = some v4 ∧ Below base w W ∧ base ≤ W.heap.size) : Below base w W := h.2.2.2.2.2.1
/-- the bytes are the same -/
def sameB (p q : Int × List ByteArray) : Bool := (sigB p.1 p.2).toList == (sigB q.1 q.2).toList
theorem sameB_self (p : Int × List ByteArray) : sameB p p = true := by unfold sameB; simp
def thereTo (M : List (Int × List ByteArray)) (t : Int × List ByteArray) (k : Nat) : Bool := (M.take k).any fun x => sameB x t
theorem there_succ (M : List (Int × List ByteArray)) (t : Int × List ByteArray) (k : Nat) (h : k < M.length) : thereTo M t (k + 1) = (thereTo M t k || sameB (M.getD k (0, [])) t) := by
  unfold thereTo
  rw [List.take_succ_eq_append_getElem h, List.any_append]
  simp [List.getD, List.getElem?_eq_getElem h]
theorem there_all {M : List (Int × List ByteArray)} {t : Int × List ByteArray} (h : t ∈ M) : thereTo M t M.length = true := by
  unfold thereTo
  rw [List.take_length, List.any_eq_true]
  exact ⟨t, h, sameB_self t⟩
/-- a list of signatures, each by its cells -/
theorem sigs_nth {w : World} {v : Value} {l : List (Int × List ByteArray)} (h : SigsAt w v l) : ∃ a0 cap, v = .slice a0 l.length cap ∧ ∀ i, i < l.length → ∃ b off ta tc, a0 = some ⟨b, off, none⟩ ∧ b < w.heap.size ∧ w.cell? ⟨b, off + i * 2, none⟩ = some (.int .i64 (l.getD i (0, [])).1) ∧ w.cell? ⟨b, off + i * 2 + 1, none⟩ = some (.slice ta (l.getD i (0, [])).2.length tc) ∧ StrsAt w (.slice ta (l.getD i (0, [])).2.length tc) (l.getD i (0, [])).2 := by
  obtain ⟨a0, cap, rfl, h | ⟨b, off, rfl, hl, hc⟩⟩ := h
  · exact ⟨a0, cap, rfl, fun i hi => by rw [h] at hi; simp at hi⟩
  · refine ⟨_, cap, rfl, fun i hi => ?_⟩
    obtain ⟨tv, h1, h2, h3⟩ := hc i hi
    obtain ⟨ta, tc, rfl, _⟩ := id h3
    exact ⟨b, off, ta, tc, rfl, hl, h1, h2, h3⟩
end CC
namespace Go.Proofs.YtigoaokpodggcaaDoor
open CC MM WW BB
set_option maxRecDepth 100000 in
set_option maxHeartbeats 8000000 in
theorem same5_any (f g : Int) (tv tu : Value) (ts us : List ByteArray) (w : World) (hv : StrsAt w tv ts) (hu : StrsAt w tu us) (h1 : (flat ts).length ≤ 500000 ∧ ts.length ≤ 1000) (h2 : (flat us).length ≤ 500000 ∧ us.length ≤ 1000) :
    Calls Tryd.prog 16 #[.agg #[.int .i64 f, tv], .agg #[.int .i64 g, tu]] w fun e w' => e = .returned (.bool (sameB (f, ts) (g, us))) ∧ Below w.heap.size w w' := by
  have HV := Lib.hid hv
  have HU := Lib.hid hu
  have H1 := Lib.hid h1
  have H2 := Lib.hid h2
  obtain ⟨a0, c0, rfl, _⟩ := hv
  obtain ⟨a1, c1, rfl, _⟩ := hu
  clear h1 h2
  have hT := two2_mk w [.int .i64 f, .slice a0 ts.length c0] [.int .i64 g, .slice a1 us.length c1] 35
  go_enter Tryd.func16, Tryd.ntmps16
  go_wp2_with fail
  refine abs_wp (fun wx => Two2 w w.heap.size [.int .i64 f, .slice a0 ts.length c0] [.int .i64 g, .slice a1 us.length c1] wx) hT ?_
  intro w0 hT0
  obtain ⟨x, hx⟩ : ∃ x, w.heap.size = x := ⟨_, rfl⟩
  have B0 := Lib.hid hT0.a.below
  have HV0 := Lib.hid (fun wx (hb : Below w0.heap.size w0 wx) => HV.out.later (hT0.a.below.trans (hb.mono hT0.a.below.size)))
  have HU0 := Lib.hid (fun wx (hb : Below w0.heap.size w0 wx) => HU.out.later (hT0.a.below.trans (hb.mono hT0.a.below.size)))
  rw [hx] at hT0 ⊢
  have HXX := Lib.hid hx
  have hst : w0.drew.cell? ⟨x, 0, none⟩ = some (.int .i64 f) ∧ w0.drew.cell? ⟨x, 1, none⟩ = some (.slice a0 ts.length c0) ∧ w0.drew.cell? ⟨x + 1, 0, none⟩ = some (.int .i64 g) ∧ w0.drew.cell? ⟨x + 1, 1, none⟩ = some (.slice a1 us.length c1) ∧ Below w0.heap.size w0 w0.drew ∧ w0.heap.size ≤ w0.drew.heap.size :=
    ⟨hT0.a.cell 0 _ rfl, hT0.a.cell 1 _ rfl, hT0.b.cell 0 _ rfl, hT0.b.cell 1 _ rfl, (Below.refl _ _).drew, Nat.le_refl _⟩
  obtain ⟨s1, hs1⟩ : ∃ s1, sigB f ts = s1 := ⟨_, rfl⟩
  obtain ⟨s2, hs2⟩ : ∃ s2, sigB g us = s2 := ⟨_, rfl⟩
  have HR := Lib.hid (show sameB (f, ts) (g, us) = (s1.toList == s2.toList) by rw [← hs1, ← hs2]; rfl)
  have K1 := Lib.hid (fun wx (hb : Below w0.heap.size w0 wx) => hs1 ▸ rsig_any f (.slice a0 ts.length c0) ts wx (HV0.out wx hb) H1.out.1 H1.out.2)
  have K2 := Lib.hid (fun wx (hb : Below w0.heap.size w0 wx) => hs2 ▸ rsig_any g (.slice a1 us.length c1) us wx (HU0.out wx hb) H2.out.1 H2.out.2)
  clear hT hT0 hx hs1 hs2
  go_region_held3 (fun w' => w'.cell? ⟨x, 0, none⟩ = some (.int .i64 f) ∧ w'.cell? ⟨x, 1, none⟩ = some (.slice a0 ts.length c0) ∧ w'.cell? ⟨x + 1, 0, none⟩ = some (.int .i64 g) ∧ w'.cell? ⟨x + 1, 1, none⟩ = some (.slice a1 us.length c1) ∧ Below w0.heap.size w0 w' ∧ w0.heap.size ≤ w'.heap.size)
    (first | exact hst | exact hk)
    (first
      | (go_at_call 39; (with_reducible refine (K1.out _ (four_below (by assumption))).mono ?_); rintro e w8 ⟨rfl, hb8⟩; have hk := keep4b (by assumption) hb8)
      | (go_at_call 39; (with_reducible refine (K2.out _ (four_below (by assumption))).mono ?_); rintro e w8 ⟨rfl, hb8⟩; have hk := keep4b (by assumption) hb8))
  have BE := Lib.hid (four_below hk)
  clear hst
  go_wp2_with fail
  go_ret
  exact ⟨by rw [HR.out]; rfl, HXX.out ▸ B0.out.trans (BE.out.mono B0.out.size)⟩
theorem same5_is (p q : Int × List ByteArray) (tv tu : Value) (b : Bool) (hb : sameB p q = b) (w : World) (hv : StrsAt w tv p.2) (hu : StrsAt w tu q.2) (h1 : (flat p.2).length ≤ 500000 ∧ p.2.length ≤ 1000) (h2 : (flat q.2).length ≤ 500000 ∧ q.2.length ≤ 1000) :
    Calls Tryd.prog 16 #[.agg #[.int .i64 p.1, tv], .agg #[.int .i64 q.1, tu]] w fun e w' => e = .returned (.bool b) ∧ Below w.heap.size w w' := hb ▸ same5_any p.1 q.1 tv tu p.2 q.2 w hv hu h1 h2
set_option maxRecDepth 100000 in
set_option maxHeartbeats 8000000 in
theorem lawm_big (v : Int) (k : ByteArray) (sv : Value) (l : List (Int × List ByteArray)) (w : World) (hv : SigsAt w sv l) (h : 20 < l.length ∨ l.length ≤ 20 ∧ 50 < k.size) (hT : Tabs w) :
    Calls Tryd.prog 4 #[.int .i64 v, .string k, sv] w fun e w' => e = .returned (.bool true) ∧ Below w.heap.size w w' := by
  have HT := Lib.hid hT
  obtain ⟨a0, cap, rfl, _⟩ := hv
  clear hT
  rcases h with h | ⟨h, h2⟩
  all_goals
    try have t1 : (20 : Int) < (l.length : Int) := by omega
    try have t2 : ¬ (20 : Int) < (l.length : Int) := by omega
    try have t3 : (50 : Int) < (k.size : Int) := by omega
    clear h
    try clear h2
    go_enter Tryd.func4, Tryd.ntmps4
    go_wp2_with fail
    refine (awake5_any _ HT.out).mono ?_
    rintro e w2 ⟨rfl, hb2⟩
    have B2 := Lib.hid hb2
    clear hb2
    go_wp2_with fail
    refine (awake5_any _ (tabs_on HT.out B2.out)).mono ?_
    rintro e w4 ⟨rfl, hb4⟩
    have B4 := Lib.hid (B2.out.trans (hb4.mono B2.out.size))
    clear hb4
    go_wp2_with fail
    go_ret
    exact ⟨rfl, B4.out⟩
set_option maxRecDepth 100000 in
set_option maxHeartbeats 32000000 in
theorem lawm_in (v : Int) (k : ByteArray) (sv : Value) (l : List (Int × List ByteArray)) (w : World) (hv : SigsAt w sv l) (hn : MemS l) (hl : l.length ≤ 20) (hk : k.size ≤ 50) (hT : Tabs w) :
    Calls Tryd.prog 4 #[.int .i64 v, .string k, sv] w fun e w' => e = .returned (.bool true) ∧ Below w.heap.size w w' := by
  have HT := Lib.hid hT
  have HN := Lib.hid hn
  have HL := Lib.hid hl
  have t2 : ¬ (20 : Int) < (l.length : Int) := by omega
  have t3 : ¬ (50 : Int) < (k.size : Int) := by omega
  have HV := Lib.hid hv
  obtain ⟨a0, cap, rfl, hat⟩ := sigs_nth hv
  have HAT := Lib.hid hat
  clear hT hn hl hk hat hv
  go_enter Tryd.func4, Tryd.ntmps4
  go_wp2_with fail
  refine (awake5_any _ HT.out).mono ?_
  rintro e w1 ⟨rfl, hb1⟩
  have B1 := Lib.hid hb1
  clear hb1
  go_wp2_with fail
  clear t3
  go_loopw [7] (fun x wr => ∃ i : Nat, i ≤ l.length ∧ x = .int .i64 (i : Int) ∧ (∀ j, j < i → fewSig (l.getD j (0, [])).2 = true) ∧ Below w.heap.size w wr) (fun x _ => l.length - (intOf x).toNat)
  case atStart => exact ⟨0, Nat.zero_le _, rfl, fun j hj => absurd hj (Nat.not_lt_zero _), B1.out⟩
  case round =>
    obtain ⟨i, hi, rfl, hall, hb⟩ := hrel
    have HALL := Lib.hid hall
    have BR := Lib.hid hb
    have i0 : (0 : Int) ≤ (i : Int) := by omega
    have ib : (i : Int) ≤ 20 := by have := HL.out; omega
    clear hall hb
    by_cases hlt : i < l.length
    · have hlt' : (i : Int) < (l.length : Int) := by omega
      obtain ⟨b, off, ta, tc, rfl, hbw, hc0, hc1, hts⟩ := HAT.out i hlt
      have c0 := (BR.out.cell (p := ⟨b, off + i * 2, none⟩) hbw).trans hc0
      have c1 := (BR.out.cell (p := ⟨b, off + i * 2 + 1, none⟩) hbw).trans hc1
      have HTS := Lib.hid (hts.later BR.out)
      have HLT := Lib.hid hlt
      have HNI := Lib.hid (HN.out.2 i hlt)
      clear hbw hc0 hc1 hts hlt hi
      go_wp2_with fail
      rcases hf : fewSig (l.getD i (0, [])).2 with _ | _
      all_goals
        have HF := Lib.hid hf
        clear hf
        refine (fewsig5_is _ _ _ _ HF.out wr HTS.out HNI.out).mono ?_
        rintro e w2 ⟨rfl, hb2⟩
        have B2 := Lib.hid (BR.out.trans (hb2.mono BR.out.size))
        clear hb2 c0 c1
        go_wp2_with fail
      · go_ret
        exact ⟨rfl, B2.out⟩
      · go_roundw
        case rel => exact ⟨i + 1, by have := HLT.out; omega, by go_num, fun j hj => if h : j = i then h ▸ HF.out else HALL.out j (by omega), B2.out⟩
        case measure => have := HLT.out; simp [intOf]; omega
    · obtain rfl : i = l.length := by omega
      have hlt' : ¬ (l.length : Int) < (l.length : Int) := by omega
      have HFL := Lib.hid (show ∀ p ∈ l, (flat p.2).length ≤ 500000 ∧ p.2.length ≤ 1000 from fun p hp => by
        obtain ⟨j, hj, rfl⟩ := List.getElem_of_mem hp
        have h1 := HALL.out j hj
        rw [show l.getD j (0, []) = l[j] by simp [List.getD, List.getElem?_eq_getElem hj]] at h1
        have := fewsig_flat _ h1
        omega)
      obtain ⟨L, hLl, hmk⟩ := make_any v k (.slice a0 l.length cap) l wr (HV.out.later BR.out) HL.out fun p hp => (HFL.out p hp).2
      have HMK := Lib.hid hmk
      have HLL := Lib.hid hLl
      clear hi hlt hLl hmk i0 ib t2
      go_wp2_with fail
      refine HMK.out.mono ?_
      rintro e w3 ⟨ma, mcap, rfl, hms, hb3⟩
      have B3 := Lib.hid (BR.out.trans (hb3.mono BR.out.size))
      obtain ⟨M, hM⟩ : ∃ M, (mkL L).map bare = M := ⟨_, rfl⟩
      have hml : (mkL L).length = M.length := by rw [← hM, List.length_map]
      rw [hM] at hms
      rw [hml] at hms ⊢
      have HCN := Lib.hid (show cntF l l.length = M.length by rw [← hM, ← HLL.out]; exact mk_count L)
      have HHS := Lib.hid (show ∀ j, j < l.length → firstTo l j j = true → l.getD j (0, []) ∈ M from fun j hj hf => by
        rw [← hM, ← HLL.out]
        exact mk_has' L j (by rw [← HLL.out, List.length_map] at hj; exact hj) (by rw [HLL.out]; exact hf))
      have HRS := Lib.hid (show ∀ j, j + 1 < M.length → (M.getD j (0, [])).1 < (M.getD (j + 1) (0, [])).1 from fun j hj => by rw [← hM]; exact mk_at L j (by rw [hM]; exact hj))
      have HMB := Lib.hid (show M.length ≤ 20 by rw [← hml]; have h1 := mkL_len L; have h2 := HL.out; have h3 : l.length = L.length := (by rw [← HLL.out, List.length_map]); omega)
      have HMF := Lib.hid (show ∀ p ∈ M, (flat p.2).length ≤ 500000 ∧ p.2.length ≤ 1000 from fun p hp => by
        rw [← hM] at hp
        obtain ⟨x, hx, rfl⟩ := List.mem_map.1 hp
        exact HFL.out (bare x) (by rw [← HLL.out]; exact List.mem_map_of_mem (mk_sub' L x hx)))
      have P3 := box_mk w3 [.int .i64 v, .string k, .slice ma M.length mcap] 24
      have HMS := Lib.hid hms
      clear hb3 hM hml hms
      go_upto_region 9 with fail
      refine abs_wp (fun wx => BoxAt w3 w3.heap.size [.int .i64 v, .string k, .slice ma M.length mcap] wx) P3 ?_
      intro w4 Q3
      clear P3
      obtain ⟨gc, hgc⟩ : ∃ gc, w3.heap.size = gc := ⟨_, rfl⟩
      have B4 := Lib.hid (B3.out.trans (Q3.below.mono B3.out.size))
      have hm4 := HMS.out.later Q3.below
      obtain ⟨_, _, hme, hmat⟩ := sigs_nth hm4
      injection hme with e1 _ e3
      subst e1 e3
      have HMT := Lib.hid hmat
      rw [hgc] at Q3 ⊢
      have HC4 := Lib.hid (fun (wx : World) (hb : Below w4.heap.size w4 wx) => And.intro (Q3.on hb |>.cell 0 _ rfl) (And.intro (Q3.on hb |>.cell 1 _ rfl) (Q3.on hb |>.cell 2 _ rfl)))
      have t5 : (v != v) = false := by simp
      have t6 : (k.toList != k.toList) = false := by simp
      obtain ⟨c0, c1, c2⟩ := HC4.out w4 (Below.refl _ _)
      clear Q3 hm4 hmat hgc
      go_wp2_with fail
      clear t5 t6 c0 c1 c2
      obtain ⟨_, _, hle, hlat⟩ := sigs_nth (HV.out.later B4.out)
      injection hle with e1 _ e3
      subst e1 e3
      have HLT4 := Lib.hid hlat
      have HB := Lib.hid (show ∀ wx, Below w4.heap.size w4 wx → Below w.heap.size w wx from fun wx hb => B4.out.trans (hb.mono B4.out.size))
      clear hlat BR B1
      go_loopw [9] (fun x wx => ∃ i : Nat, i ≤ M.length ∧ x = .int .i64 (i : Int) ∧ Below w4.heap.size w4 wx) (fun x _ => M.length - (intOf x).toNat)
      case atStart => exact ⟨0, Nat.zero_le _, rfl, Below.refl _ _⟩
      case round =>
        obtain ⟨i, hi, rfl, hb⟩ := hrel
        have BR := Lib.hid hb
        obtain ⟨_, _, c2⟩ := HC4.out wr hb
        clear hb
        by_cases hlt : i < M.length
        · have HLT := Lib.hid hlt
          by_cases hi0 : i = 0
          · have hd : decide (0 < i) = false := by simp; omega
            have hd2 : decide ((0 : Int) < (i : Int)) = false := by simp; omega
            have i0 : (0 : Int) ≤ (i : Int) := by omega
            have ib : (i : Int) ≤ 20 := by have := HMB.out; omega
            have hlt' : (i : Int) < (M.length : Int) := by omega
            clear hlt hi hi0
            go_wp2_with fail
            go_quiet (fail)
            go_wp2_with fail
            go_roundw
            case rel => exact ⟨i + 1, by have := HLT.out; omega, by go_num, below_drewI BR.out _⟩
            case measure => have := HLT.out; simp [intOf]; omega
          · obtain ⟨j, rfl⟩ : ∃ j, i = j + 1 := ⟨i - 1, by omega⟩
            have j0 : (0 : Int) ≤ (j : Int) := by omega
            have j1 : (0 : Int) ≤ (j : Int) + 1 := by omega
            have jp : (0 : Int) < (j : Int) + 1 := by omega
            have jb : (j : Int) ≤ 20 := by have := HMB.out; omega
            have jl : (j : Int) + 1 < (M.length : Int) := by omega
            have jl2 : (j : Int) < (M.length : Int) := by omega
            obtain ⟨b, off, ta, tc, rfl, hbw, hc0, hc1, _⟩ := HMT.out (j + 1) hlt
            obtain ⟨b', off', ta', tc', he, hbw', hd0, hd1, _⟩ := HMT.out j (by omega)
            injection he with he
            injection he with e1 e2
            subst e1 e2
            have a0' := (BR.out.cell (p := ⟨b, off + (j + 1) * 2, none⟩) hbw).trans hc0
            have b0' := (BR.out.cell (p := ⟨b, off + j * 2, none⟩) hbw).trans hd0
            obtain ⟨x, hx⟩ : ∃ x, (M.getD (j + 1) (0, [])).1 = x := ⟨_, rfl⟩
            obtain ⟨y, hy⟩ : ∃ y, (M.getD j (0, [])).1 = y := ⟨_, rfl⟩
            have hxy : ¬ x ≤ y := by have := HRS.out j hlt; omega
            rw [hx] at a0'
            rw [hy] at b0'
            have mw : IntKind.i64.wrap ((j : Int) + 1 - 1) = (j : Int) := by rw [IntKind.wrap_i64]; omega
            have mw2 : IntKind.i64.wrap (j : Int) = (j : Int) := by rw [IntKind.wrap_i64]; omega
            clear hx hy hc0 hc1 hd0 hd1 hbw hbw' hlt hi hi0
            go_wp2_with fail
            go_quiet (fail)
            go_wp2_with fail
            go_roundw
            case rel => exact ⟨j + 1 + 1, by have := HLT.out; omega, by go_num, below_drewI BR.out _⟩
            case measure => have := HLT.out; simp [intOf]; omega
        · obtain rfl : i = M.length := by omega
          have hlt' : ¬ (M.length : Int) < (M.length : Int) := by omega
          clear hi hlt
          go_wp2_with fail
          clear c2
          have BL := Lib.hid BR.out
          clear BR
          go_loopw [10, 11] (fun u x wx => ∃ i : Nat, i ≤ l.length ∧ x = .int .i64 (i : Int) ∧ u = .int .i64 (cntF l i : Int) ∧ Below w4.heap.size w4 wx) (fun _ x _ => l.length - (intOf x).toNat)
          case atStart => exact ⟨0, Nat.zero_le _, rfl, rfl, BL.out⟩
          case round =>
            obtain ⟨i, hi, rfl, rfl, hb⟩ := hrel
            have BR := Lib.hid hb
            obtain ⟨c, hc⟩ : ∃ c, cntF l i = c := ⟨_, rfl⟩
            rw [hc]
            have HCI := Lib.hid hc
            have HCB := Lib.hid (cntF_le l i)
            have i0 : (0 : Int) ≤ (i : Int) := by omega
            have ib : (i : Int) ≤ 20 := by have := HL.out; omega
            have cc0 : (0 : Int) ≤ (c : Int) := by omega
            have cb : (c : Int) ≤ 20 := by have := HCB.out; have := HL.out; omega
            clear hb hc
            by_cases hlt : i < l.length
            · have hlt' : (i : Int) < (l.length : Int) := by omega
              obtain ⟨b, off, ta, tc, rfl, hbw, hc0, hc1, hts⟩ := HLT4.out i hlt
              obtain ⟨f, hf⟩ : ∃ f, (l.getD i (0, [])).1 = f := ⟨_, rfl⟩
              rw [hf] at hc0
              have HI0 := Lib.hid (And.intro hbw (And.intro hc0 (And.intro hc1 hts)))
              have HFF := Lib.hid hf
              have HLT := Lib.hid hlt
              clear hbw hc0 hc1 hts hf hi hlt
              go_wp2_with fail
              go_loopw [12, 13] (fun u x wx => ∃ kk : Nat, kk ≤ i ∧ x = .int .i64 (kk : Int) ∧ u = .bool (firstTo l i kk) ∧ Below w4.heap.size w4 wx) (fun _ x _ => i - (intOf x).toNat)
              case atStart => exact ⟨0, Nat.zero_le _, rfl, by unfold firstTo; simp, BR.out⟩
              case round =>
                obtain ⟨kk, hkk, rfl, rfl, hb⟩ := hrel
                have BK := Lib.hid hb
                have k0 : (0 : Int) ≤ (kk : Int) := by omega
                have kb : (kk : Int) ≤ 20 := by omega
                clear hb
                by_cases hkl : kk < i
                · have hkl' : (kk : Int) < (i : Int) := by omega
                  have hkl2 : (kk : Int) < (l.length : Int) := by omega
                  have HKL := Lib.hid hkl
                  have HSU := Lib.hid (firstTo_succ l i kk)
                  obtain ⟨b', off', ta', tc', he, hbw', hd0, hd1, _⟩ := HLT4.out kk (by have := HLT.out; omega)
                  injection he with he
                  injection he with e1 e2
                  subst e1 e2
                  have a0' := (BK.out.cell (p := ⟨b, off + kk * 2, none⟩) hbw').trans hd0
                  have b0' := (BK.out.cell (p := ⟨b, off + i * 2, none⟩) HI0.out.1).trans HI0.out.2.1
                  obtain ⟨y, hy⟩ : ∃ y, (l.getD kk (0, [])).1 = y := ⟨_, rfl⟩
                  rw [hy] at a0'
                  rw [hy, HFF.out] at HSU
                  obtain ⟨F, hF⟩ : ∃ F, firstTo l i kk = F := ⟨_, rfl⟩
                  rw [hF] at HSU ⊢
                  obtain ⟨E, hE⟩ : ∃ E, (y != f) = E := ⟨_, rfl⟩
                  have HE := Lib.hid hE
                  rw [hE] at HSU
                  have HSF := HSU.out
                  have HS2 := Lib.hid HSF
                  clear hy hF hd0 hd1 hbw' hkl hkk HSF HSU
                  cases F with
                  | true =>
                    go_wp2_with fail
                    go_quiet (fail)
                    go_wp2_with fail
                    go_roundw
                    case rel => exact ⟨kk + 1, by have := HKL.out; omega, by go_num, by rw [HS2.out]; rfl, below_drewI BK.out _⟩
                    case measure => have := HKL.out; simp [intOf]; omega
                  | false =>
                    go_wp2_with fail
                    go_quiet (fail)
                    go_wp2_with fail
                    go_roundw
                    case rel => exact ⟨kk + 1, by have := HKL.out; omega, by go_num, by rw [HS2.out]; rfl, below_drewI BK.out _⟩
                    case measure => have := HKL.out; simp [intOf]; omega
                · obtain rfl : kk = i := by omega
                  have hkl' : ¬ (kk : Int) < (kk : Int) := by omega
                  clear hkk hkl
                  obtain ⟨F, hF⟩ : ∃ F, firstTo l kk kk = F := ⟨_, rfl⟩
                  have HFI := Lib.hid hF
                  rw [hF]
                  clear hF
                  cases F with
                  | false =>
                    go_wp2_with fail
                    go_roundw
                    case rel => exact ⟨kk + 1, by have := HLT.out; omega, by go_num, by rw [cntF_succ, HFI.out, HCI.out]; simp, BK.out⟩
                    case measure => have := HLT.out; simp [intOf]; omega
                  | true =>
                    have HTM := Lib.hid (HHS.out kk HLT.out HFI.out)
                    go_wp2_with fail
                    go_loopw [14, 15] (fun u x wx => ∃ q : Nat, q ≤ M.length ∧ x = .int .i64 (q : Int) ∧ u = .bool (thereTo M (l.getD kk (0, [])) q) ∧ Below w4.heap.size w4 wx) (fun _ x _ => M.length - (intOf x).toNat)
                    case atStart => exact ⟨0, Nat.zero_le _, rfl, rfl, BK.out⟩
                    case round =>
                      obtain ⟨q, hq, rfl, rfl, hb⟩ := hrel
                      have BQ := Lib.hid hb
                      obtain ⟨_, _, c2⟩ := HC4.out wr hb
                      have q0 : (0 : Int) ≤ (q : Int) := by omega
                      have qb : (q : Int) ≤ 20 := by have := HMB.out; omega
                      clear hb
                      by_cases hql : q < M.length
                      · have hql' : (q : Int) < (M.length : Int) := by omega
                        have HQL := Lib.hid hql
                        have hsu := there_succ M (l.getD kk (0, [])) q hql
                        obtain ⟨b', off', ta', tc', rfl, hbw', hd0, hd1, hds⟩ := HMT.out q hql
                        have HDS := Lib.hid (fun wx (hb : Below w4.heap.size w4 wx) => hds.later hb)
                        have HCS := Lib.hid (fun wx (hb : Below w4.heap.size w4 wx) => HI0.out.2.2.2.later hb)
                        have a0' := (BQ.out.cell (p := ⟨b', off' + q * 2, none⟩) hbw').trans hd0
                        have a1' := (BQ.out.cell (p := ⟨b', off' + q * 2 + 1, none⟩) hbw').trans hd1
                        have b0' := (BQ.out.cell (p := ⟨b, off + kk * 2, none⟩) HI0.out.1).trans HI0.out.2.1
                        have b1' := (BQ.out.cell (p := ⟨b, off + kk * 2 + 1, none⟩) HI0.out.1).trans HI0.out.2.2.1
                        have HP1 := Lib.hid (HMF.out _ (getD_mem' M (0, []) q hql))
                        have HU1 := Lib.hid (HFL.out _ (getD_mem' l (0, []) kk HLT.out))
                        have hfu : l.getD kk (0, []) = (f, (l.getD kk (0, [])).2) := by rw [← HFF.out]
                        obtain ⟨p, hp⟩ : ∃ p, M.getD q (0, []) = p := ⟨_, rfl⟩
                        obtain ⟨us, hus⟩ : ∃ us, (l.getD kk (0, [])).2 = us := ⟨_, rfl⟩
                        rw [hp] at a0' a1' HDS HP1 hsu
                        rw [hus] at b1' HCS HU1 hfu
                        obtain ⟨E, hE⟩ : ∃ E, sameB (p.1, p.2) (f, us) = E := ⟨_, rfl⟩
                        have hsu : thereTo M (l.getD kk (0, [])) (q + 1) = (thereTo M (l.getD kk (0, [])) q || E) := by rw [hsu, ← hE, hfu]
                        have HSU := Lib.hid hsu
                        have K := Lib.hid (fun wx (hb : Below w4.heap.size w4 wx) => hE ▸ same5_any p.1 f (.slice ta' p.2.length tc') (.slice ta us.length tc) p.2 us wx (HDS.out wx hb) (HCS.out wx hb) HP1.out HU1.out)
                        obtain ⟨F, hF⟩ : ∃ F, thereTo M (l.getD kk (0, [])) q = F := ⟨_, rfl⟩
                        rw [hF] at HSU ⊢
                        have hst : wr.drew.cell? ⟨gc, 2, none⟩ = some (.slice (some ⟨b', off', none⟩) M.length mcap) ∧ wr.drew.cell? ⟨b', off' + q * 2, none⟩ = some (.int .i64 p.1) ∧ wr.drew.cell? ⟨b', off' + q * 2 + 1, none⟩ = some (.slice ta' p.2.length tc') ∧ wr.drew.cell? ⟨b, off + kk * 2, none⟩ = some (.int .i64 f) ∧ wr.drew.cell? ⟨b, off + kk * 2 + 1, none⟩ = some (.slice ta us.length tc) ∧ Below w4.heap.size w4 wr.drew ∧ w4.heap.size ≤ wr.drew.heap.size :=
                          ⟨c2, a0', a1', b0', b1', BQ.out.drew, BQ.out.size⟩
                        clear hbw' hd0 hd1 hds hp hus hE hsu hF hfu hql hq
                        cases F with
                        | true =>
                          go_wp2_with fail
                          go_quiet (fail)
                          go_wp2_with fail
                          go_roundw
                          case rel => exact ⟨q + 1, by have := HQL.out; omega, by go_num, by rw [HSU.out]; rfl, below_drewI BQ.out _⟩
                          case measure => have := HQL.out; simp [intOf]; omega
                        | false =>
                          clear a0' a1' b0' b1'
                          go_wp2_with fail
                          clear c2
                          go_region_held3 (fun w' => w'.cell? ⟨gc, 2, none⟩ = some (.slice (some ⟨b', off', none⟩) M.length mcap) ∧ w'.cell? ⟨b', off' + q * 2, none⟩ = some (.int .i64 p.1) ∧ w'.cell? ⟨b', off' + q * 2 + 1, none⟩ = some (.slice ta' p.2.length tc') ∧ w'.cell? ⟨b, off + kk * 2, none⟩ = some (.int .i64 f) ∧ w'.cell? ⟨b, off + kk * 2 + 1, none⟩ = some (.slice ta us.length tc) ∧ Below w4.heap.size w4 w' ∧ w4.heap.size ≤ w'.heap.size)
                            (first | exact hst | exact hk)
                            (first | (go_at_call 16; refine (K.out _ (five_below (by assumption))).mono ?_; rintro e w8 ⟨rfl, hb8⟩; have hk := keep5d (by assumption) hb8))
                          have BE := Lib.hid (five_below hk)
                          clear hst hk
                          go_wp2_with fail
                          go_roundw
                          case rel => exact ⟨q + 1, by have := HQL.out; omega, by go_num, by rw [HSU.out]; rfl, BE.out⟩
                          case measure => have := HQL.out; simp [intOf]; omega
                      · obtain rfl : q = M.length := by omega
                        have hql' : ¬ (M.length : Int) < (M.length : Int) := by omega
                        have hth := there_all HTM.out
                        rw [hth]
                        clear hq hql hth
                        go_wp2_with fail
                        go_roundw
                        case rel => exact ⟨kk + 1, by have := HLT.out; omega, by go_num, by rw [cntF_succ, HFI.out, HCI.out]; simp, BQ.out⟩
                        case measure => have := HLT.out; simp [intOf]; omega
            · obtain rfl : i = l.length := by omega
              have hlt' : ¬ (l.length : Int) < (l.length : Int) := by omega
              have hcm : c = M.length := by rw [← HCI.out]; exact HCN.out
              obtain ⟨_, _, c2⟩ := HC4.out wr BR.out
              have teq : ((c : Int) == (M.length : Int)) = true := by rw [hcm]; simp
              clear hi hlt hcm
              go_wp2_with fail
              go_ret
              exact ⟨by first | rfl | simp, HB.out _ BR.out⟩
theorem lawm_card (v : Int) (k : ByteArray) (sv : Value) (l : List (Int × List ByteArray)) (w : World) (hv : SigsAt w sv l) (hn : MemS l) (hT : Tabs w) :
    Calls Tryd.prog 4 #[.int .i64 v, .string k, sv] w fun e w' => e = .returned (.bool true) ∧ Below w.heap.size w w' := by
  by_cases hl : l.length ≤ 20
  · by_cases hk : k.size ≤ 50
    · exact lawm_in v k sv l w hv hn hl hk hT
    · exact lawm_big v k sv l w hv (Or.inr ⟨hl, by omega⟩) hT
  · exact lawm_big v k sv l w hv (Or.inl (by omega)) hT
end Go.Proofs.YtigoaokpodggcaaDoor
end
section
open Go Go.RowKit
namespace CC
open MM WW BB
/-- a node's vote -/
def voteB (s : ByteArray) (n : Nat) (t : ByteArray) (k : Nat) : Int × List ByteArray := ((k : Int), tagsTo s (k : Int) t n)
theorem tags_get (s : ByteArray) (f : Int) (t : ByteArray) (n i : Nat) (h : i < n) : (tagsTo s f t n).getD i ⟨#[]⟩ = tagB s f (i : Int) t := by
  unfold tagsTo; simp [List.getD, h]
theorem tags_16 (s : ByteArray) (f : Int) (t : ByteArray) (n : Nat) : ∀ x ∈ tagsTo s f t n, x.size = 16 := by
  intro x hx
  unfold tagsTo at hx
  obtain ⟨j, _, rfl⟩ := List.mem_map.1 hx
  exact tagB_size _ _ _ _
theorem rises_of {l : List (Int × List ByteArray)} (h : l.Pairwise (fun p q => p.1 < q.1)) : ∀ n, n ≤ l.length → risesTo l n = true
  | 0, _ => rfl
  | n + 1, hn => by
    show (risesTo l n && (decide (n = 0) || decide ((l.getD (n - 1) (0, [])).1 < (l.getD n (0, [])).1))) = true
    rw [rises_of h n (by omega), Bool.true_and, Bool.or_eq_true, decide_eq_true_eq, decide_eq_true_eq]
    by_cases h0 : n = 0
    · exact Or.inl h0
    · refine Or.inr ?_
      have := (List.pairwise_iff_getElem.1 h) (n - 1) n (by omega) (by omega) (by omega)
      simpa [List.getD, List.getElem?_eq_getElem (show n - 1 < l.length by omega), List.getElem?_eq_getElem (show n < l.length by omega)] using this
theorem once_mem (n : Int) : ∀ (l out : List Int) (u : Int), u ∈ l.foldl (onceStep n) out ↔ u ∈ out ∨ (u ∈ l ∧ 0 ≤ u ∧ u < n)
  | [], out, u => by simp
  | a :: l, out, u => by
    show u ∈ l.foldl (onceStep n) (onceStep n out a) ↔ _
    rw [once_mem n l (onceStep n out a) u]
    unfold onceStep
    split
    · rename_i h
      rw [List.mem_append, List.mem_singleton, List.mem_cons]
      constructor
      · rintro ((h1 | rfl) | h1)
        · exact Or.inl h1
        · exact Or.inr ⟨Or.inl rfl, h.1, h.2.1⟩
        · exact Or.inr ⟨Or.inr h1.1, h1.2⟩
      · rintro (h1 | ⟨rfl | h1, h2⟩)
        · exact Or.inl (Or.inl h1)
        · exact Or.inl (Or.inr rfl)
        · exact Or.inr ⟨h1, h2⟩
    · rename_i h
      rw [List.mem_cons]
      constructor
      · rintro (h1 | h1)
        · exact Or.inl h1
        · exact Or.inr ⟨Or.inr h1.1, h1.2⟩
      · rintro (h1 | ⟨rfl | h1, h2⟩)
        · exact Or.inl h1
        · refine Or.inl (Classical.byContradiction fun hn => h ⟨h2.1, h2.2, hn⟩)
        · exact Or.inr ⟨h1, h2⟩
section
variable {s T : ByteArray} {n : Nat} {ks : List Nat} {L : List Sg} {v : Int} {K : ByteArray}
theorem votes_in (hL : L.map bare = ks.map (voteB s n T)) : ∀ p ∈ (mkL L).map bare, ∃ k ∈ ks, p = voteB s n T k := by
  intro p hp
  obtain ⟨x, hx, rfl⟩ := List.mem_map.1 hp
  have : bare x ∈ L.map bare := List.mem_map_of_mem (mk_sub' L x hx)
  rw [hL] at this
  obtain ⟨k, hk, he⟩ := List.mem_map.1 this
  exact ⟨k, hk, he.symm⟩
theorem votes_fst (hL : L.map bare = ks.map (voteB s n T)) (u : Int) : u ∈ ((mkL L).map bare).map (fun p => p.1) ↔ u ∈ ks.map (fun (k : Nat) => (k : Int)) := by
  constructor
  · intro h
    obtain ⟨p, hp, rfl⟩ := List.mem_map.1 h
    obtain ⟨k, hk, rfl⟩ := votes_in hL p hp
    exact List.mem_map_of_mem hk
  · intro h
    obtain ⟨k, hk, rfl⟩ := List.mem_map.1 h
    obtain ⟨i, hi, rfl⟩ := List.getElem_of_mem hk
    have hlen : L.length = ks.length := by have := congrArg List.length hL; simpa using this
    have he : ((L.map bare).getD i (0, [])).1 = (ks[i] : Int) := by
      rw [hL]; simp [List.getD, List.getElem?_eq_getElem hi, voteB]
    obtain ⟨j, h1, h2, h3⟩ := first_ex (L.map bare) _ i (by rw [List.length_map]; omega) he
    rw [← h2]
    exact List.mem_map_of_mem (mk_has' L j (by omega) h3)
theorem votes_len (hL : L.map bare = ks.map (voteB s n T)) (hk : ∀ k ∈ ks, k < n) : ((mkL L).map bare).length = (onceL (ks.map fun (k : Nat) => (k : Int)) (n : Int)).length := by
  have hn2 : (((mkL L).map bare).map fun p => p.1).Nodup := by
    apply nodup_of_lt
    rw [List.pairwise_map]
    exact mk_pair L
  have := ((List.perm_ext_iff_of_nodup hn2 (once_nodup (ks.map fun (k : Nat) => (k : Int)) (n : Int))).2 fun u => by
    rw [votes_fst hL u]
    show _ ↔ u ∈ (ks.map fun (k : Nat) => (k : Int)).foldl (onceStep n) []
    rw [once_mem]
    constructor
    · intro h
      refine Or.inr ⟨h, ?_⟩
      obtain ⟨k, hk', rfl⟩ := List.mem_map.1 h
      have := hk k hk'
      omega
    · rintro (h | h)
      · cases h
      · exact h.1).length_eq
  rw [List.length_map] at this
  exact this
theorem votes_right (hL : L.map bare = ks.map (voteB s n T)) (hk : ∀ k ∈ ks, k < n) (hn : n ≤ 7) (hv : 0 ≤ v ∧ v ≤ 1000000) (hK : K.size = 32) : rightCert v K ((mkL L).map bare) = true := by
  have hlen : ((mkL L).map bare).length ≤ 7 := by
    have hn2 : (((mkL L).map bare).map fun p => p.1).Nodup := by
      apply nodup_of_lt
      rw [List.pairwise_map]
      exact mk_pair L
    have := List.Nodup.length_le_of_subset (l₂ := (List.range n).map fun (k : Nat) => (k : Int)) hn2 fun u hu => by
      rw [votes_fst hL] at hu
      obtain ⟨k, hk', rfl⟩ := List.mem_map.1 hu
      exact List.mem_map.2 ⟨k, List.mem_range.2 (hk k hk'), rfl⟩
    rw [List.length_map, List.length_map, List.length_map, List.length_range] at this
    rw [List.length_map]
    omega
  unfold rightCert
  rw [Bool.and_eq_true, okTo_iff]
  refine ⟨by simp [hv.1, hv.2, hK]; simpa using hlen, fun i hi => ?_, rises_of (mk_pair L) _ (Nat.le_refl _)⟩
  obtain ⟨k, hk', he⟩ := votes_in hL _ (getD_mem' ((mkL L).map bare) (0, []) i hi)
  rw [he]
  unfold rightSig
  simp only [Bool.and_eq_true, decide_eq_true_eq, List.all_eq_true]
  refine ⟨fun x hx => tags_16 _ _ _ _ x (List.mem_of_mem_take hx), ⟨⟨?_, ?_⟩, ?_⟩⟩
  · show (0 : Int) ≤ (k : Int); omega
  · show (k : Int) < 7; have := hk k hk'; omega
  · show (tagsTo s (k : Int) T n).length ≤ 7; rw [tags_len]; exact hn
theorem votes_good (hL : L.map bare = ks.map (voteB s n (textB v K))) (hk : ∀ k ∈ ks, k < n) (hn : 1 ≤ n ∧ n ≤ 7) (hv : 0 ≤ v ∧ v ≤ 1000000) (hK : K.size = 32) (i : Nat) (hi : i < n) :
    goodL s (i : Int) (n : Int) v K ((mkL L).map bare) = ((mkL L).map bare).map fun p => p.1 := by
  unfold goodL
  rw [if_pos (votes_right hL hk hn.2 hv hK)]
  unfold goodTo
  rw [List.take_length, List.filter_eq_self.2 fun p hp => ?_]
  obtain ⟨k, hk', rfl⟩ := votes_in hL p hp
  have hkn := hk k hk'
  unfold holdsB
  have h1 : amongB (i : Int) (n : Int) = true := among_mk (by omega) (by omega) (by omega) (by omega)
  have h2 : amongB (voteB s n (textB v K) k).1 (n : Int) = true := among_mk (by omega) (by omega) (by show (0 : Int) ≤ (k : Int); omega) (by show (k : Int) < _; omega)
  have h3 : shapedB (voteB s n (textB v K) k).2 (n : Int) = true := by
    unfold shapedB
    rw [Bool.and_eq_true, decide_eq_true_eq, List.all_eq_true]
    refine ⟨by show ((tagsTo s (k : Int) (textB v K) n).length : Int) = _; rw [tags_len], fun x hx => ?_⟩
    have := tags_16 _ _ _ _ x hx
    simpa using this
  rw [h1, h2, h3, Bool.true_and, Bool.true_and, Bool.true_and, beq_iff_eq]
  show ((tagsTo s (k : Int) (textB v K) n).getD (i : Int).toNat ⟨#[]⟩).toList = _
  rw [Int.toNat_natCast, tags_get _ _ _ _ _ hi]
  rfl
/-- it holds for each node just if they are a quorum -/
theorem votes_holds (hL : L.map bare = ks.map (voteB s n (textB v K))) (hk : ∀ k ∈ ks, k < n) (hn : 1 ≤ n ∧ n ≤ 7) (hv : 1 ≤ v ∧ v ≤ 1000000) (hK : K.size = 32) (i : Nat) (hi : i < n) :
    certHolds s (i : Int) (n : Int) v K ((mkL L).map bare) = decide (quorumI (n : Int) ≤ ((onceL (ks.map fun (k : Nat) => (k : Int)) (n : Int)).length : Int)) := by
  unfold certHolds
  rw [if_neg (by omega), votes_good hL hk hn ⟨by omega, hv.2⟩ hK i hi, List.length_map, votes_len hL hk]
/-- of no votes, in the view 0, it is another one -/
theorem votes_other (hL : L.map bare = ks.map (voteB s n T)) (h0 : ks ≠ []) (d m : Int) : certHolds s d m 0 K ((mkL L).map bare) = false := by
  unfold certHolds
  rw [if_pos rfl, decide_eq_false_iff_not]
  rintro ⟨_, h⟩
  match ks, h0 with
  | k :: r, _ =>
    have := (votes_fst hL (k : Int)).2 (by simp)
    rw [h] at this
    cases this
end
end CC
end
