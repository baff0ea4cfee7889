/-
  The walk of the law of what is preferred, and committed.
-/
import Derived.Test.YtlpnggdghmccjaaDoorKRFind
import Derived.Test.YtlpnggdghmccjaaDoorKRVote
section
open Go Go.RowKit
namespace RR
open FF JJ CC WW BB MM
theorem rcom_no1 {F : Fo} {v : Int} {h : ByteArray} (h1 : findF F h = none ∨ ∃ b, findF F h = some b ∧ viewI b ≠ v) : commitF F v h = (⟨#[]⟩, false) := com_no1 (cert_no h1)
theorem rcom_no2 {F : Fo} {v : Int} {h : ByteArray} {b : BlockD} (h1 : findF F h = some b) (h2 : viewI b = v) (h3 : findF F (parI b) = none ∨ ∃ p, findF F (parI b) = some p ∧ (findF F (parI p) = none ∨ viewI b ≠ nextV (viewI p) ∨ ∃ g, findF F (parI p) = some g ∧ viewI p ≠ nextV (viewI g))) : commitF F v h = (⟨#[]⟩, false) := by
  have c := cert_yes (v := v) h1 h2
  rcases h3 with h3 | ⟨p, h3, h4⟩
  · exact com_no2 c (ahead_no (Or.inl h3))
  · by_cases hv : viewI b = nextV (viewI p)
    · refine com_no3 c (ahead_yes h3 hv) (ahead_no ?_)
      rcases h4 with h4 | h4 | h4
      · exact Or.inl h4
      · exact absurd hv h4
      · exact Or.inr h4
    · exact com_no2 c (ahead_no (Or.inr ⟨p, h3, hv⟩))
theorem rcom_yes {F : Fo} {v : Int} {h : ByteArray} {b p g : BlockD} (h1 : findF F h = some b) (h2 : viewI b = v) (h3 : findF F (parI b) = some p) (h4 : viewI b = nextV (viewI p)) (h5 : findF F (parI p) = some g) (h6 : viewI p = nextV (viewI g)) : commitF F v h = (parI p, true) :=
  com_yes (cert_yes h1 h2) (ahead_yes h3 h4) (ahead_yes h5 h6)
end RR
namespace Go.Proofs.YtlpnggdghmccjaaDoor
open RR FF JJ CC MM WW BB
set_option maxRecDepth 100000 in
set_option maxHeartbeats 4000000 in
theorem rlearn_any (F : Fo) (hF : WF F) (hsm : ∀ x ∈ F.nodes, SmallI x.2) (na : Option Addr) (nn nc : Nat) (oa : Option Addr) (on oc : Nat) (w : World) (hv : FoAt w F (.slice na nn nc) (.slice oa on oc)) (s1 s2 cv : Int) (ch : ByteArray) (ca : Option Addr) (cn cc : Nat) (t1 t2 : Int) (ht : learnS F (s1, s2) cv ch = (t1, t2)) :
    Calls Tryd.prog 10 #[.agg #[.string F.root, .int .i64 F.height, .slice na nn nc, .slice oa on oc], .agg #[.int .i64 s1, .int .i64 s2], .agg #[.int .i64 cv, .string ch, .slice ca cn cc]] w fun e w' => e = .returned (.agg #[.int .i64 t1, .int .i64 t2]) ∧ Below w.heap.size w w' := by
  have HF := Lib.hid (And.intro hF hsm)
  have HV := Lib.hid hv
  have HT := Lib.hid ht
  have X4 := Lib.hid (((((Below.refl w.heap.size w).alloc (Nat.le_refl _) (.cells #[.string F.root, .int .i64 F.height, .slice na nn nc, .slice oa on oc] 30)).alloc (by simp) (.cells #[.int .i64 s1, .int .i64 s2] 24)).alloc (by simp; omega) (.cells #[.int .i64 cv, .string ch, .slice ca cn cc] 36)).alloc (by simp; omega) (.cells #[.int .i64 0, .int .i64 0] 24))
  have R1 := Lib.hid (show Blk ((((w.alloc (.cells #[.string F.root, .int .i64 F.height, .slice na nn nc, .slice oa on oc] 30)).alloc (.cells #[.int .i64 s1, .int .i64 s2] 24)).alloc (.cells #[.int .i64 cv, .string ch, .slice ca cn cc] 36)).alloc (.cells #[.int .i64 0, .int .i64 0] 24)) (w.heap.size + 1) 2 (rowL [.int .i64 s1, .int .i64 s2]) from ((Blk.new' (by simp) (row2_ _ _)).alloc _).alloc _)
  have R2 := Lib.hid (show Blk ((((w.alloc (.cells #[.string F.root, .int .i64 F.height, .slice na nn nc, .slice oa on oc] 30)).alloc (.cells #[.int .i64 s1, .int .i64 s2] 24)).alloc (.cells #[.int .i64 cv, .string ch, .slice ca cn cc] 36)).alloc (.cells #[.int .i64 0, .int .i64 0] 24)) (w.heap.size + 1 + 1) 3 (rowL [.int .i64 cv, .string ch, .slice ca cn cc]) from (Blk.new' (by simp) (row3_ _ _ _)).alloc _)
  have R3 := Lib.hid (show Blk ((((w.alloc (.cells #[.string F.root, .int .i64 F.height, .slice na nn nc, .slice oa on oc] 30)).alloc (.cells #[.int .i64 s1, .int .i64 s2] 24)).alloc (.cells #[.int .i64 cv, .string ch, .slice ca cn cc] 36)).alloc (.cells #[.int .i64 0, .int .i64 0] 24)) (w.heap.size + 1 + 1 + 1) 2 (rowL [.int .i64 0, .int .i64 0]) from Blk.new' (by simp) (row2_ _ _))
  clear hF hsm hv ht
  go_enter Tryd.func10, Tryd.ntmps10
  go_wp2_with fail
  refine (find_any F HF.out.1 HF.out.2 ch _ _ _ (HV.out.later X4.out)).mono ?_
  rintro e w3 ⟨v, p, j, k, a0, n0, c0, a1, n1, c1, bb, rfl, ho, hb3⟩
  have HO := Lib.hid ho
  have X5 := Lib.hid ((X4.out.trans (hb3.mono X4.out.size)).alloc (Nat.le_trans X4.out.size hb3.size) (.cells #[.int .i64 v, .int .i64 p, .int .i64 j, .string k, .slice a0 n0 c0, .slice a1 n1 c1] 39))
  have C1 := Lib.hid ((R1.out.below hb3 R1.out.lt).alloc (.cells #[.int .i64 v, .int .i64 p, .int .i64 j, .string k, .slice a0 n0 c0, .slice a1 n1 c1] 39))
  have C2 := Lib.hid ((R2.out.below hb3 R2.out.lt).alloc (.cells #[.int .i64 v, .int .i64 p, .int .i64 j, .string k, .slice a0 n0 c0, .slice a1 n1 c1] 39))
  have C3 := Lib.hid ((R3.out.below hb3 R3.out.lt).alloc (.cells #[.int .i64 v, .int .i64 p, .int .i64 j, .string k, .slice a0 n0 c0, .slice a1 n1 c1] 39))
  have C4 := Lib.hid (show Blk (w3.alloc (.cells #[.int .i64 v, .int .i64 p, .int .i64 j, .string k, .slice a0 n0 c0, .slice a1 n1 c1] 39)) w3.heap.size 6 (rowL [.int .i64 v, .int .i64 p, .int .i64 j, .string k, .slice a0 n0 c0, .slice a1 n1 c1]) from Blk.new' rfl (row6_ _ _ _ _ _ _))
  clear ho hb3
  obtain ⟨d0, d1⟩ := cells2 C1.out
  obtain ⟨d2, d3, d4⟩ := cells3 C2.out
  obtain ⟨d5, d6⟩ := cells2 C3.out
  obtain ⟨g0, g1, g2, g3, g4, g5⟩ := cells6 C4.out
  have f1 := C3.out.frz 0
  have f2 := C3.out.frz 1
  cases bb with
  | false =>
    obtain ⟨rfl, rfl⟩ : s1 = t1 ∧ s2 = t2 := by
      have := HT.out
      rw [rlearn_no (Or.inl HO.out.no.1)] at this
      exact ⟨congrArg Prod.fst this, congrArg Prod.snd this⟩
    go_wp2_with fail
    obtain ⟨xi, ui⟩ := rset2 C3.out (.int .i64 s1) (.int .i64 s2)
    obtain ⟨p0, p1⟩ := cells2 xi
    refine bodyPost_ret (v := .agg #[.int .i64 s1, .int .i64 s2]) (by simp [results, Tryd.results10, go_sem, p0, p1]) rfl ⟨rfl, ?_⟩
    exact X5.out.trans (ui.below (by omega))
  | true =>
    by_cases hv : v = cv
    · subst hv
      by_cases hj : s2 < j
      · have y1 : decide (s2 < j) = true := decide_eq_true hj
        obtain ⟨rfl, rfl⟩ : s1 = t1 ∧ j = t2 := by
          obtain ⟨b, h1, h2, h3, h4, h5, h6⟩ := HO.out.yes
          have := HT.out
          rw [rlearn_yes h1 h2 (by omega), h4] at this
          exact ⟨congrArg Prod.fst this, congrArg Prod.snd this⟩
        clear hj
        go_wp2_with fail
        obtain ⟨xi, ui⟩ := rset2 C3.out (.int .i64 s1) (.int .i64 j)
        obtain ⟨p0, p1⟩ := cells2 xi
        refine bodyPost_ret (v := .agg #[.int .i64 s1, .int .i64 j]) (by simp [results, Tryd.results10, go_sem, p0, p1]) rfl ⟨rfl, ?_⟩
        exact X5.out.trans (ui.below (by omega))
      · have y1 : decide (s2 < j) = false := decide_eq_false hj
        obtain ⟨rfl, rfl⟩ : s1 = t1 ∧ s2 = t2 := by
          obtain ⟨b, h1, h2, h3, h4, h5, h6⟩ := HO.out.yes
          have := HT.out
          rw [rlearn_no (Or.inr ⟨b, h1, Or.inr (by omega)⟩)] at this
          exact ⟨congrArg Prod.fst this, congrArg Prod.snd this⟩
        clear hj
        go_wp2_with fail
        obtain ⟨xi, ui⟩ := rset2 C3.out (.int .i64 s1) (.int .i64 s2)
        obtain ⟨p0, p1⟩ := cells2 xi
        refine bodyPost_ret (v := .agg #[.int .i64 s1, .int .i64 s2]) (by simp [results, Tryd.results10, go_sem, p0, p1]) rfl ⟨rfl, ?_⟩
        exact X5.out.trans (ui.below (by omega))
    · have y1 : (v == cv) = false := beq_eq_false_iff_ne.2 hv
      obtain ⟨rfl, rfl⟩ : s1 = t1 ∧ s2 = t2 := by
        obtain ⟨b, h1, h2, h3, h4, h5, h6⟩ := HO.out.yes
        have := HT.out
        rw [rlearn_no (Or.inr ⟨b, h1, Or.inl (by rw [h2]; exact hv)⟩)] at this
        exact ⟨congrArg Prod.fst this, congrArg Prod.snd this⟩
      clear hv
      go_wp2_with fail
      obtain ⟨xi, ui⟩ := rset2 C3.out (.int .i64 s1) (.int .i64 s2)
      obtain ⟨p0, p1⟩ := cells2 xi
      refine bodyPost_ret (v := .agg #[.int .i64 s1, .int .i64 s2]) (by simp [results, Tryd.results10, go_sem, p0, p1]) rfl ⟨rfl, ?_⟩
      exact X5.out.trans (ui.below (by omega))
set_option maxRecDepth 100000 in
set_option maxHeartbeats 8000000 in
theorem rcommit_any (F : Fo) (hF : WF F) (hsm : ∀ x ∈ F.nodes, SmallI x.2) (na : Option Addr) (nn nc : Nat) (oa : Option Addr) (on oc : Nat) (w : World) (hv : FoAt w F (.slice na nn nc) (.slice oa on oc)) (cv : Int) (ch : ByteArray) (ca : Option Addr) (cn cc : Nat) (h : ByteArray) (m : Bool) (ht : commitF F cv ch = (h, m)) :
    Calls Tryd.prog 8 #[.agg #[.string F.root, .int .i64 F.height, .slice na nn nc, .slice oa on oc], .agg #[.int .i64 cv, .string ch, .slice ca cn cc]] w fun e w' => e = .returned (.tuple #[.string h, .bool m]) ∧ Below w.heap.size w w' := by
  have HF := Lib.hid (And.intro hF hsm)
  have HV := Lib.hid hv
  have HT := Lib.hid ht
  have X1 := Lib.hid (((Below.refl w.heap.size w).alloc (Nat.le_refl _) (.cells #[.string F.root, .int .i64 F.height, .slice na nn nc, .slice oa on oc] 30)).alloc (by simp) (.cells #[.int .i64 cv, .string ch, .slice ca cn cc] 36))
  have P1 := Lib.hid (show Blk ((w.alloc (.cells #[.string F.root, .int .i64 F.height, .slice na nn nc, .slice oa on oc] 30)).alloc (.cells #[.int .i64 cv, .string ch, .slice ca cn cc] 36)) w.heap.size 4 (rowL [.string F.root, .int .i64 F.height, .slice na nn nc, .slice oa on oc]) from (Blk.new' rfl (row4_ _ _ _ _)).alloc _)
  have Q1 := Lib.hid (show Blk ((w.alloc (.cells #[.string F.root, .int .i64 F.height, .slice na nn nc, .slice oa on oc] 30)).alloc (.cells #[.int .i64 cv, .string ch, .slice ca cn cc] 36)) (w.heap.size + 1) 3 (rowL [.int .i64 cv, .string ch, .slice ca cn cc]) from Blk.new' (by simp) (row3_ _ _ _))
  clear hF hsm hv ht
  go_enter Tryd.func8, Tryd.ntmps8
  go_wp2_with fail
  refine (find_any F HF.out.1 HF.out.2 ch _ _ _ (HV.out.later X1.out)).mono ?_
  rintro e w2 ⟨v, p, j, k, a0, n0, c0, a1, n1, c1, bb, rfl, ho, hb⟩
  have HO0 := Lib.hid ho
  have X2 := Lib.hid ((X1.out.trans (hb.mono X1.out.size)).alloc (Nat.le_trans X1.out.size hb.size) (.cells #[.int .i64 v, .int .i64 p, .int .i64 j, .string k, .slice a0 n0 c0, .slice a1 n1 c1] 39))
  have P2 := Lib.hid ((P1.out.below hb P1.out.lt).alloc (.cells #[.int .i64 v, .int .i64 p, .int .i64 j, .string k, .slice a0 n0 c0, .slice a1 n1 c1] 39))
  have Q2 := Lib.hid ((Q1.out.below hb Q1.out.lt).alloc (.cells #[.int .i64 v, .int .i64 p, .int .i64 j, .string k, .slice a0 n0 c0, .slice a1 n1 c1] 39))
  have B00 := Lib.hid (show Blk (w2.alloc (.cells #[.int .i64 v, .int .i64 p, .int .i64 j, .string k, .slice a0 n0 c0, .slice a1 n1 c1] 39)) w2.heap.size 6 (rowL [.int .i64 v, .int .i64 p, .int .i64 j, .string k, .slice a0 n0 c0, .slice a1 n1 c1]) from Blk.new' rfl (row6_ _ _ _ _ _ _))
  clear ho hb
  obtain ⟨x0, x1, x2, x3⟩ := cells4 P2.out
  obtain ⟨y0, y1, y2⟩ := cells3 Q2.out
  obtain ⟨z00, z01, z02, z03, z04, z05⟩ := cells6 B00.out
  go_wp2_with fail
  refine (find_any F HF.out.1 HF.out.2 k _ _ _ (HV.out.later X2.out)).mono ?_
  rintro e w3 ⟨v', p', j', k', a0', n0', c0', a1', n1', c1', bb', rfl, ho, hb⟩
  have HO1 := Lib.hid ho
  have X3 := Lib.hid ((X2.out.trans (hb.mono X2.out.size)).alloc (Nat.le_trans X2.out.size hb.size) (.cells #[.int .i64 v', .int .i64 p', .int .i64 j', .string k', .slice a0' n0' c0', .slice a1' n1' c1'] 39))
  have P3 := Lib.hid ((P2.out.below hb P2.out.lt).alloc (.cells #[.int .i64 v', .int .i64 p', .int .i64 j', .string k', .slice a0' n0' c0', .slice a1' n1' c1'] 39))
  have Q3 := Lib.hid ((Q2.out.below hb Q2.out.lt).alloc (.cells #[.int .i64 v', .int .i64 p', .int .i64 j', .string k', .slice a0' n0' c0', .slice a1' n1' c1'] 39))
  have B11 := Lib.hid (show Blk (w3.alloc (.cells #[.int .i64 v', .int .i64 p', .int .i64 j', .string k', .slice a0' n0' c0', .slice a1' n1' c1'] 39)) w3.heap.size 6 (rowL [.int .i64 v', .int .i64 p', .int .i64 j', .string k', .slice a0' n0' c0', .slice a1' n1' c1']) from Blk.new' rfl (row6_ _ _ _ _ _ _))
  have B01 := Lib.hid ((B00.out.below hb B00.out.lt).alloc (.cells #[.int .i64 v', .int .i64 p', .int .i64 j', .string k', .slice a0' n0' c0', .slice a1' n1' c1'] 39))
  clear ho hb x0 x1 x2 x3 y0 y1 y2 z00 z01 z02 z03 z04 z05
  obtain ⟨x0, x1, x2, x3⟩ := cells4 P3.out
  obtain ⟨y0, y1, y2⟩ := cells3 Q3.out
  obtain ⟨z00, z01, z02, z03, z04, z05⟩ := cells6 B01.out
  obtain ⟨z10, z11, z12, z13, z14, z15⟩ := cells6 B11.out
  go_wp2_with fail
  refine (find_any F HF.out.1 HF.out.2 k' _ _ _ (HV.out.later X3.out)).mono ?_
  rintro e w4 ⟨v'', p'', j'', k'', a0'', n0'', c0'', a1'', n1'', c1'', bb'', rfl, ho, hb⟩
  have HO2 := Lib.hid ho
  have X4 := Lib.hid ((X3.out.trans (hb.mono X3.out.size)).alloc (Nat.le_trans X3.out.size hb.size) (.cells #[.int .i64 v'', .int .i64 p'', .int .i64 j'', .string k'', .slice a0'' n0'' c0'', .slice a1'' n1'' c1''] 39))
  have P4 := Lib.hid ((P3.out.below hb P3.out.lt).alloc (.cells #[.int .i64 v'', .int .i64 p'', .int .i64 j'', .string k'', .slice a0'' n0'' c0'', .slice a1'' n1'' c1''] 39))
  have Q4 := Lib.hid ((Q3.out.below hb Q3.out.lt).alloc (.cells #[.int .i64 v'', .int .i64 p'', .int .i64 j'', .string k'', .slice a0'' n0'' c0'', .slice a1'' n1'' c1''] 39))
  have B22 := Lib.hid (show Blk (w4.alloc (.cells #[.int .i64 v'', .int .i64 p'', .int .i64 j'', .string k'', .slice a0'' n0'' c0'', .slice a1'' n1'' c1''] 39)) w4.heap.size 6 (rowL [.int .i64 v'', .int .i64 p'', .int .i64 j'', .string k'', .slice a0'' n0'' c0'', .slice a1'' n1'' c1'']) from Blk.new' rfl (row6_ _ _ _ _ _ _))
  have B02 := Lib.hid ((B01.out.below hb B01.out.lt).alloc (.cells #[.int .i64 v'', .int .i64 p'', .int .i64 j'', .string k'', .slice a0'' n0'' c0'', .slice a1'' n1'' c1''] 39))
  have B12 := Lib.hid ((B11.out.below hb B11.out.lt).alloc (.cells #[.int .i64 v'', .int .i64 p'', .int .i64 j'', .string k'', .slice a0'' n0'' c0'', .slice a1'' n1'' c1''] 39))
  clear ho hb x0 x1 x2 x3 y0 y1 y2 z00 z01 z02 z03 z04 z05 z10 z11 z12 z13 z14 z15
  obtain ⟨x0, x1, x2, x3⟩ := cells4 P4.out
  obtain ⟨y0, y1, y2⟩ := cells3 Q4.out
  obtain ⟨z00, z01, z02, z03, z04, z05⟩ := cells6 B02.out
  obtain ⟨z10, z11, z12, z13, z14, z15⟩ := cells6 B12.out
  obtain ⟨z20, z21, z22, z23, z24, z25⟩ := cells6 B22.out
  cases bb with
  | false =>
    obtain ⟨rfl, rfl⟩ : (⟨#[]⟩ : ByteArray) = h ∧ false = m := by
      have := HT.out
      rw [rcom_no1 (Or.inl HO0.out.no.1)] at this
      exact ⟨congrArg Prod.fst this, congrArg Prod.snd this⟩
    go_wp2_with fail
    go_ret2
    exact ⟨rfl, X4.out⟩
  | true =>
    obtain ⟨b, hb1, hb2, _, _, hb5, _⟩ := HO0.out.yes
    have HB := Lib.hid (And.intro hb1 (And.intro hb2 hb5))
    clear hb1 hb2 hb5
    by_cases hv : v = cv
    · have HVV := Lib.hid hv
      subst hv
      cases bb' with
      | false =>
        obtain ⟨rfl, rfl⟩ : (⟨#[]⟩ : ByteArray) = h ∧ false = m := by
          have := HT.out
          rw [rcom_no2 HB.out.1 HB.out.2.1 (Or.inl (by rw [HB.out.2.2]; exact HO1.out.no.1))] at this
          exact ⟨congrArg Prod.fst this, congrArg Prod.snd this⟩
        go_wp2_with fail
        go_ret2
        exact ⟨rfl, X4.out⟩
      | true =>
        obtain ⟨b', hb1, hb2, _, _, hb5, _⟩ := HO1.out.yes
        have HB' := Lib.hid (And.intro hb1 (And.intro hb2 hb5))
        clear hb1 hb2 hb5
        cases bb'' with
        | false =>
          obtain ⟨rfl, rfl⟩ : (⟨#[]⟩ : ByteArray) = h ∧ false = m := by
            have := HT.out
            rw [rcom_no2 HB.out.1 HB.out.2.1 (Or.inr ⟨b', by rw [HB.out.2.2]; exact HB'.out.1, Or.inl (by rw [HB'.out.2.2]; exact HO2.out.no.1)⟩)] at this
            exact ⟨congrArg Prod.fst this, congrArg Prod.snd this⟩
          go_wp2_with fail
          go_ret2
          exact ⟨rfl, X4.out⟩
        | true =>
          go_wp2_with fail
          refine (find_any F HF.out.1 HF.out.2 k' _ _ _ (HV.out.later X4.out)).mono ?_
          rintro e w5 ⟨v3, p3, j3, k3, a03, n03, c03, a13, n13, c13, bb3, rfl, ho, hb⟩
          obtain ⟨g, hg1, hg2, _⟩ := HO2.out.yes
          obtain rfl : true = bb3 := by
            cases bb3 with
            | true => rfl
            | false =>
              have := ho.no.1
              rw [hg1] at this
              cases this
          obtain rfl : v'' = v3 := by
            obtain ⟨g', h1, h2, _⟩ := ho.yes
            rw [hg1] at h1
            injection h1 with h1
            rw [← hg2, ← h2, h1]
          have HG := Lib.hid (And.intro hg1 hg2)
          have X5 := Lib.hid ((X4.out.trans (hb.mono X4.out.size)).alloc (Nat.le_trans X4.out.size hb.size) (.cells #[.int .i64 v'', .int .i64 p3, .int .i64 j3, .string k3, .slice a03 n03 c03, .slice a13 n13 c13] 39))
          have E0 := Lib.hid ((B02.out.below hb B02.out.lt).alloc (.cells #[.int .i64 v'', .int .i64 p3, .int .i64 j3, .string k3, .slice a03 n03 c03, .slice a13 n13 c13] 39))
          have E1 := Lib.hid ((B12.out.below hb B12.out.lt).alloc (.cells #[.int .i64 v'', .int .i64 p3, .int .i64 j3, .string k3, .slice a03 n03 c03, .slice a13 n13 c13] 39))
          have E2 := Lib.hid (show Blk (w5.alloc (.cells #[.int .i64 v'', .int .i64 p3, .int .i64 j3, .string k3, .slice a03 n03 c03, .slice a13 n13 c13] 39)) w5.heap.size 6 (rowL [.int .i64 v'', .int .i64 p3, .int .i64 j3, .string k3, .slice a03 n03 c03, .slice a13 n13 c13]) from Blk.new' rfl (row6_ _ _ _ _ _ _))
          clear ho hb hg1 hg2 x0 x1 x2 x3 y0 y1 y2 z00 z01 z02 z03 z04 z05 z10 z11 z12 z13 z14 z15 z20 z21 z22 z23 z24 z25
          obtain ⟨z00, z01, z02, z03, z04, z05⟩ := cells6 E0.out
          obtain ⟨z10, z11, z12, z13, z14, z15⟩ := cells6 E1.out
          obtain ⟨z20, z21, z22, z23, z24, z25⟩ := cells6 E2.out
          obtain ⟨nv, hnv⟩ : ∃ nv, IntKind.i64.wrap (v' + 1) = nv := ⟨_, rfl⟩
          obtain ⟨nw, hnw⟩ : ∃ nw, IntKind.i64.wrap (v'' + 1) = nw := ⟨_, rfl⟩
          have HNV := Lib.hid (show nextV v' = nv from hnv)
          have HNW := Lib.hid (show nextV v'' = nw from hnw)
          by_cases h1 : nv = v
          · by_cases h2 : nw = v'
            · obtain ⟨rfl, rfl⟩ : k' = h ∧ true = m := by
                have := HT.out
                rw [rcom_yes HB.out.1 HB.out.2.1 (by rw [HB.out.2.2]; exact HB'.out.1) (by rw [HB.out.2.1, HB'.out.2.1, HNV.out, h1]) (by rw [HB'.out.2.2]; exact HG.out.1) (by rw [HB'.out.2.1, HG.out.2, HNW.out, h2]), HB'.out.2.2] at this
                exact ⟨congrArg Prod.fst this, congrArg Prod.snd this⟩
              subst h1 h2
              go_wp2_with fail
              go_ret2
              exact ⟨rfl, X5.out⟩
            · have H2 := Lib.hid h2
              have u2 : (nw == v') = false := beq_eq_false_iff_ne.2 h2
              obtain ⟨rfl, rfl⟩ : (⟨#[]⟩ : ByteArray) = h ∧ false = m := by
                have := HT.out
                rw [rcom_no2 HB.out.1 HB.out.2.1 (Or.inr ⟨b', by rw [HB.out.2.2]; exact HB'.out.1, Or.inr (Or.inr ⟨g, by rw [HB'.out.2.2]; exact HG.out.1, by rw [HB'.out.2.1, HG.out.2, HNW.out]; exact fun e => H2.out e.symm⟩)⟩)] at this
                exact ⟨congrArg Prod.fst this, congrArg Prod.snd this⟩
              subst h1
              clear h2
              go_wp2_with fail
              go_ret2
              exact ⟨rfl, X5.out⟩
          · have H1 := Lib.hid h1
            have u1 : (nv == v) = false := beq_eq_false_iff_ne.2 h1
            obtain ⟨rfl, rfl⟩ : (⟨#[]⟩ : ByteArray) = h ∧ false = m := by
              have := HT.out
              rw [rcom_no2 HB.out.1 HB.out.2.1 (Or.inr ⟨b', by rw [HB.out.2.2]; exact HB'.out.1, Or.inr (Or.inl (by rw [HB.out.2.1, HB'.out.2.1, HNV.out]; exact fun e => H1.out e.symm))⟩)] at this
              exact ⟨congrArg Prod.fst this, congrArg Prod.snd this⟩
            clear h1
            go_wp2_with fail
            go_ret2
            exact ⟨rfl, X5.out⟩
    · have HVV := Lib.hid hv
      have t1 : (v == cv) = false := beq_eq_false_iff_ne.2 hv
      clear hv
      obtain ⟨rfl, rfl⟩ : (⟨#[]⟩ : ByteArray) = h ∧ false = m := by
        have := HT.out
        rw [rcom_no1 (Or.inr ⟨b, HB.out.1, by rw [HB.out.2.1]; exact HVV.out⟩)] at this
        exact ⟨congrArg Prod.fst this, congrArg Prod.snd this⟩
      cases bb' <;> cases bb'' <;> (go_wp2_with fail; go_ret2; exact ⟨rfl, X4.out⟩)
end Go.Proofs.YtlpnggdghmccjaaDoor
end
section
open Go Go.RowKit
namespace RR
open FF JJ CC WW BB MM
theorem play_small (l : List (Nat × Nat × Nat)) : ∀ x ∈ (playF (chainL l l.length)).nodes, SmallI x.2 := fun x hx =>
  play_from (p := SmallI) _ (fun b hb => (chain_small l l.length b hb).1) x (List.mem_append_left _ hx)
end RR
namespace Go.Proofs.YtlpnggdghmccjaaDoor
open RR FF JJ CC MM WW BB
set_option maxRecDepth 100000 in
set_option maxHeartbeats 1000000 in
theorem rawake_any (w : World) : Calls Tryd.prog 4 #[] w fun e w' => e = .returned (.bool true) ∧ Below w.heap.size w w' := by
  go_enter Tryd.func4, Tryd.ntmps4
  go_wp2_with fail
  refine (may_is 0 0 1 0 0 ⟨#[]⟩ none 0 0 none 0 0 true (by decide) _).mono ?_
  rintro e w2 ⟨rfl, hb2⟩
  go_wp2_with fail
  go_ret
  exact ⟨rfl, hb2⟩
set_option maxRecDepth 100000 in
set_option maxHeartbeats 8000000 in
theorem lawL_any (l : List (Nat × Nat × Nat)) (lv : Value) (s1 s2 : Int) (a b : Nat) (w : World) (hv : TriAt w lv l) (hsm : ∀ i, (l.getD i (0, 0, 0)).1 < 256 ∧ (l.getD i (0, 0, 0)).2.1 < 256 ∧ (l.getD i (0, 0, 0)).2.2 < 256) (ha : a < 256) (hb : b < 256) (hT : Tabs w) :
    Calls Tryd.prog 3 #[lv, .agg #[.int .i64 s1, .int .i64 s2], .agg #[.int .u8 (a : Int), .int .u8 (b : Int)]] w fun e w' => e = .returned (.bool true) ∧ Below w.heap.size w w' := by
  have HT := Lib.hid hT
  have HV := Lib.hid hv
  have HSM := Lib.hid hsm
  have HA := Lib.hid ha
  have HB := Lib.hid hb
  obtain ⟨la0, lc0, rfl, _⟩ := hv
  have X0 := Lib.hid (((Below.refl w.heap.size w).alloc (Nat.le_refl _) (.cells #[.int .i64 s1, .int .i64 s2] 24)).alloc (by simp) (.cells #[.int .u8 (a : Int), .int .u8 (b : Int)] 25))
  have L0 := Lib.hid (show Blk ((w.alloc (.cells #[.int .i64 s1, .int .i64 s2] 24)).alloc (.cells #[.int .u8 (a : Int), .int .u8 (b : Int)] 25)) w.heap.size 2 (rowL [.int .i64 s1, .int .i64 s2]) from (Blk.new' rfl (row2_ _ _)).alloc _)
  have M0 := Lib.hid (show Blk ((w.alloc (.cells #[.int .i64 s1, .int .i64 s2] 24)).alloc (.cells #[.int .u8 (a : Int), .int .u8 (b : Int)] 25)) (w.heap.size + 1) 2 (rowL [.int .u8 (a : Int), .int .u8 (b : Int)]) from Blk.new' (by simp) (row2_ _ _))
  clear hT hsm ha hb
  by_cases h30 : l.length ≤ 30 ∧ 0 < l.length
  · obtain ⟨h30, h0⟩ := h30
    have t1 : decide ((30 : Int) < (l.length : Int)) = false := decide_eq_false (by omega)
    have t2 : ((l.length : Int) == 0) = false := by rw [beq_eq_false_iff_ne]; omega
    have H30 := Lib.hid h30
    have H0 := Lib.hid h0
    clear h30 h0
    go_enter Tryd.func3, Tryd.ntmps3
    go_wp2_with fail
    refine (rawake_any _).mono ?_
    rintro e w1 ⟨rfl, hb1⟩
    have X1 := Lib.hid (X0.out.trans (hb1.mono X0.out.size))
    have L1 := Lib.hid (L0.out.below hb1 L0.out.lt)
    have M1 := Lib.hid (M0.out.below hb1 M0.out.lt)
    clear hb1
    go_wp2_with fail
    refine (made_any l _ w1 (HV.out.later X1.out) HSM.out H30.out (tabs_on HT.out X1.out)).mono ?_
    rintro e w2 ⟨u, rfl, g, na, nn, nc, oa, ow, oc, ua, uc, L, rfl, hcf, hfo, hbv, hmap, hb2⟩
    have HSF := Lib.hid (play_small l)
    have HWF := Lib.hid (rplay_wf (chainL l l.length)).1
    have HSB := Lib.hid (show ∀ k, SmallI ((chainL l l.length).getD k bd0) from fun k => by
      by_cases hj : k < (chainL l l.length).length
      · rw [getD_at hj]; exact (chain_small l l.length _ (List.getElem_mem hj)).1
      · rw [List.getD_eq_getElem?_getD, List.getElem?_eq_none (by omega)]; exact small_bd0)
    obtain ⟨F, hF⟩ : ∃ F, playF (chainL l l.length) = F := ⟨_, rfl⟩
    rw [hF] at hcf hfo HSF HWF ⊢
    obtain ⟨bs, hbs⟩ : ∃ bs, chainL l l.length = bs := ⟨_, rfl⟩
    rw [hbs] at hmap HSB
    have HMAP := Lib.hid hmap
    have HLN := Lib.hid (show L.length = l.length by have := congrArg List.length hmap; rwa [List.length_map, ← hbs, chain_len] at this)
    have HCF := Lib.hid hcf
    have HFO := Lib.hid hfo
    have HBV := Lib.hid hbv
    have X2 := Lib.hid (X1.out.trans (hb2.mono X1.out.size))
    have L2 := Lib.hid (L1.out.below hb2 L1.out.lt)
    have M2 := Lib.hid (M1.out.below hb2 M1.out.lt)
    clear hF hbs hmap hcf hfo hbv hb2 t1 t2
    obtain ⟨m, hm⟩ : ∃ m, L.length = m := ⟨_, rfl⟩
    have H0m := Lib.hid (show 0 < m by rw [← hm, HLN.out]; exact H0.out)
    have HM30 := Lib.hid (show m ≤ 30 by rw [← hm, HLN.out]; exact H30.out)
    have HMm := Lib.hid hm
    obtain ⟨lb, loff, rfl, _, _, hat⟩ := bv_at HBV.out 0 (by rw [hm]; exact H0m.out)
    have HAT := Lib.hid hat
    have HBL := Lib.hid (show ∀ j, j < m → (L.getD j vb0).1 = bs.getD j bd0 from fun j hj => by rw [← HMAP.out, bmap_getD L j (by rw [hm]; exact hj)])
    rw [hm]
    obtain ⟨k, hk⟩ : ∃ k, a % m = k := ⟨_, rfl⟩
    have hkm : k < m := hk ▸ Nat.mod_lt _ H0m.out
    have e1 : ((a : Nat) : Int).tmod (m : Int) = (k : Int) := by rw [Int.tmod_eq_emod_of_nonneg (by omega), ← hk]; simp
    have e2 : IntKind.i64.wrap (a : Int) = (a : Int) := by rw [IntKind.wrap_i64]; have := HA.out; omega
    have e3 : (k : Int) < (m : Int) := by omega
    have e4 : (0 : Int) < (m : Int) := by omega
    have e5 : IntKind.i64.wrap (k : Int) = (k : Int) := by rw [IntKind.wrap_i64]; have := HM30.out; omega
    obtain ⟨⟨pb, ps, pr⟩, hP⟩ : ∃ P, L.getD k vb0 = P := ⟨_, rfl⟩
    have HPB := Lib.hid (show pb = bs.getD k bd0 by rw [← HBL.out k hkm, hP])
    have HSP := Lib.hid (show SmallI pb by rw [HPB.out]; exact HSB.out k)
    obtain ⟨pv, hpv⟩ : ∃ pv, viewI pb = pv := ⟨_, rfl⟩
    obtain ⟨pp, hpp⟩ : ∃ pp, propI pb = pp := ⟨_, rfl⟩
    obtain ⟨pj, hpj⟩ : ∃ pj, jvI pb = pj := ⟨_, rfl⟩
    obtain ⟨pk, hpk⟩ : ∃ pk, parI pb = pk := ⟨_, rfl⟩
    have A2 := Lib.hid ((Below.refl w2.heap.size w2).alloc (Nat.le_refl _) (.cells #[.string F.root, .int .i64 F.height, .slice na nn nc, .slice oa ow oc] 30))
    obtain ⟨c0, c1, c2, c3, c4, c5, _⟩ := HAT.out _ A2.out k (by rw [hm]; exact hkm)
    have hin := (HAT.out w2 (Below.refl _ _) k (by rw [hm]; exact hkm)).2.2.2.2.2.2
    rw [hP] at c0 c1 c2 c3 c4 c5 hin
    obtain ⟨a4, c4', h4⟩ := sl_of_sigs hin.1
    obtain ⟨a5, c5', h5⟩ := sl_of_reqs hin.2
    replace h4 : ps = .slice a4 (sigsI pb).length c4' := h4
    replace h5 : pr = .slice a5 pb.2.length c5' := h5
    subst h4 h5
    obtain ⟨n4, hn4⟩ : ∃ n, (sigsI pb).length = n := ⟨_, rfl⟩
    obtain ⟨n5, hn5⟩ : ∃ n, pb.2.length = n := ⟨_, rfl⟩
    replace c0 : _ = some (Value.int .i64 pv) := hpv ▸ c0
    replace c1 : _ = some (Value.int .i64 pp) := hpp ▸ c1
    replace c2 : _ = some (Value.int .i64 pj) := hpj ▸ c2
    replace c3 : _ = some (Value.string pk) := hpk ▸ c3
    replace c4 : _ = some (Value.slice a4 n4 c4') := hn4 ▸ c4
    replace c5 : _ = some (Value.slice a5 n5 c5') := hn5 ▸ c5
    have HIN := Lib.hid (show SigsAt w2 (.slice a4 n4 c4') (sigsI pb) ∧ ReqsAt w2 (.slice a5 n5 c5') pb.2 from ⟨hn4 ▸ hin.1, hn5 ▸ hin.2⟩)
    have HPE := Lib.hid (show viewI pb = pv ∧ propI pb = pp ∧ jvI pb = pj ∧ parI pb = pk from ⟨hpv, hpp, hpj, hpk⟩)
    have HDG := Lib.hid (show ∀ wx, Below w2.heap.size w2 wx → Calls Tryd.prog 6 #[.agg #[.int .i64 pv, .int .i64 pp, .int .i64 pj, .string pk, .slice a4 n4 c4', .slice a5 n5 c5']] wx fun e w' => e = .returned (.string (digI pb)) ∧ Below wx.heap.size wx w' from fun wx hx => by
      have h1 := HPE.out
      obtain ⟨q1, q2, q3, q4⟩ := h1
      have := rbdigest_any (viewI pb) (propI pb) (jvI pb) (parI pb) (.slice a4 n4 c4') (.slice a5 n5 c5') (sigsI pb) pb.2 wx (HIN.out.1.later hx) (HIN.out.2.later hx) HSP.out.1 HSP.out.2.1 HSP.out.2.2
      rw [q1, q2, q3, q4] at this
      refine this.mono fun e w' h => ⟨?_, h.2⟩
      rw [h.1]
      unfold digI
      rw [← q1, ← q2, ← q3, ← q4])
    have A3 := Lib.hid (((Below.refl w2.heap.size w2).alloc (Nat.le_refl _) (.cells #[.string F.root, .int .i64 F.height, .slice na nn nc, .slice oa ow oc] 30)).alloc (by simp) (.cells #[.int .i64 pv, .int .i64 pp, .int .i64 pj, .string pk, .slice a4 n4 c4', .slice a5 n5 c5'] 39))
    have W3 := Lib.hid (show Blk ((w2.alloc (.cells #[.string F.root, .int .i64 F.height, .slice na nn nc, .slice oa ow oc] 30)).alloc (.cells #[.int .i64 pv, .int .i64 pp, .int .i64 pj, .string pk, .slice a4 n4 c4', .slice a5 n5 c5'] 39)) w2.heap.size 4 (rowL [.string F.root, .int .i64 F.height, .slice na nn nc, .slice oa ow oc]) from (Blk.new' rfl (row4_ _ _ _ _)).alloc _)
    have B3 := Lib.hid (show Blk ((w2.alloc (.cells #[.string F.root, .int .i64 F.height, .slice na nn nc, .slice oa ow oc] 30)).alloc (.cells #[.int .i64 pv, .int .i64 pp, .int .i64 pj, .string pk, .slice a4 n4 c4', .slice a5 n5 c5'] 39)) (w2.heap.size + 1) 6 (rowL [.int .i64 pv, .int .i64 pp, .int .i64 pj, .string pk, .slice a4 n4 c4', .slice a5 n5 c5']) from Blk.new' (by simp) (row6_ _ _ _ _ _ _))
    obtain ⟨m1, m2⟩ := cells2 (M2.out.alloc (.cells #[.string F.root, .int .i64 F.height, .slice na nn nc, .slice oa ow oc] 30))
    clear hk hkm hP hpv hpp hpj hpk hn4 hn5 hin hat hm
    go_upto_region 5 with fail
    have X3 := Lib.hid (X2.out.trans (A3.out.mono X2.out.size))
    have L3 := Lib.hid (L2.out.below A3.out L2.out.lt)
    have M3 := Lib.hid (M2.out.below A3.out M2.out.lt)
    have HCF3 := Lib.hid (HCF.out.on A3.out)
    have HFO3 := Lib.hid (HFO.out.later A3.out)
    clear A2 m1 m2 c0 c1 c2 c3 c4 c5
    obtain ⟨wr, hwr⟩ : ∃ wr, (w2.alloc (.cells #[.string F.root, .int .i64 F.height, .slice na nn nc, .slice oa ow oc] 30)).alloc (.cells #[.int .i64 pv, .int .i64 pp, .int .i64 pj, .string pk, .slice a4 n4 c4', .slice a5 n5 c5'] 39) = wr := ⟨_, rfl⟩
    rw [hwr] at A3 W3 B3 X3 L3 M3 HCF3 HFO3
    rw [hwr]
    obtain ⟨q, hq⟩ : ∃ q, w2.heap.size = q := ⟨_, rfl⟩
    rw [hq] at W3 B3
    rw [hq]
    clear hwr hq
    have HB6 := Lib.hid (fun (wx : World) (hb : Below wr.heap.size wr wx) => cells6 (B3.out.below hb B3.out.lt))
    have HDX := Lib.hid (fun (wx : World) (hb : Below wr.heap.size wr wx) => HDG.out wx (A3.out.trans (hb.mono A3.out.size)))
    obtain ⟨D, hD⟩ : ∃ D, digI pb = D := ⟨_, rfl⟩
    have HD32 := Lib.hid (show D.size = 32 by rw [← hD]; exact dig_size pb)
    rw [hD] at HDX
    clear hD
    go_cut [11] from 45 to 49 (fun s wx => ∃ y, s = .pointer (some ⟨y, 0, none⟩) ∧ Blk wx y 3 (rowL [.int .i64 pv, .string D, .slice none 0 0]) ∧ Below wr.heap.size wr wx ∧ wr.heap.size ≤ y)
    case first =>
      go_wp2_with fail
      refine crossE_abs (fun wx => Below wr.heap.size wr wx) 6 [0, 1, 2] 3 5 [(true, 4), (false, 5), (false, 6)] [(false, 3), (true, 4), (false, 6)] (by kernel_rfl) (by kernel_rfl) (fun _ _ d _ _ h => by cases d <;> exact h) fun w5 hs5 => ⟨hs5.below _, ?_⟩
      have Y5 := Lib.hid (show Below wr.heap.size wr w5 from hs5.below _)
      clear hs5
      iterate 3 (refine pre_run _ ?_ rfl rfl ?_ ?_; rotate_left; (focus (intro w' hS; obtain ⟨d0, d1, d2, d3, d4, d5⟩ := HB6.out _ hS; go_simp; exact rfl)); simp only [Act.put, List.setIfInBounds_toArray, List.set_cons_zero, List.set_cons_succ, List.getElem_toArray, List.getElem_cons_zero, List.getElem_cons_succ])
      refine pre_end ⟨?_, ?_⟩
      · refine pe_call (R := fun v w' => v = .string D ∧ Below w5.heap.size w5 w') _ rfl rfl (by go_simp) ((HDX.out w5 Y5.out).mono fun e w' h => ⟨.string D, h.1, rfl, h.2⟩) (fun v w' h => Y5.out.trans (h.2.mono Y5.out.size)) fun v w6 hr => ?_
        obtain ⟨rfl, hb⟩ := hr
        have Y6 := Lib.hid (Y5.out.trans (hb.mono Y5.out.size))
        clear hb
        simp only [Act.put, List.setIfInBounds_toArray, List.set_cons_zero, List.set_cons_succ, List.getElem_toArray, List.getElem_cons_zero, List.getElem_cons_succ]
        iterate 1 (refine pe_run _ ?_ rfl rfl ?_ ?_; rotate_left; (focus (intro w' hS; go_simp; exact rfl)); simp only [Act.put, List.setIfInBounds_toArray, List.set_cons_zero, List.set_cons_succ, List.getElem_toArray, List.getElem_cons_zero, List.getElem_cons_succ])
        have BA := Lib.hid ((Below.refl w6.heap.size w6).alloc (Nat.le_refl _) (.cells #[.int .i64 0, .string ⟨#[]⟩, .slice none 0 0] 36))
        have Y7 := Lib.hid (Y6.out.trans (BA.out.mono Y6.out.size))
        obtain ⟨y, hy⟩ : ∃ y, w6.heap.size = y := ⟨_, rfl⟩
        have YL := Lib.hid (show wr.heap.size ≤ y by rw [← hy]; exact Y6.out.size)
        have XI := Lib.hid (show Blk (w6.alloc (.cells #[.int .i64 0, .string ⟨#[]⟩, .slice none 0 0] 36)) y 3 (rowL [.int .i64 0, .string ⟨#[]⟩, .slice none 0 0]) from Blk.new' hy.symm (row3_ _ _ _))
        refine pe_value (w' := w6.alloc (.cells #[.int .i64 0, .string ⟨#[]⟩, .slice none 0 0] 36)) _ (.pointer (some ⟨y, 0, none⟩)) rfl rfl (by rw [← hy]; go_simp) Y7.out ?_
        generalize w6.alloc (.cells #[.int .i64 0, .string ⟨#[]⟩, .slice none 0 0] 36) = w7 at *
        simp only [Act.put, List.setIfInBounds_toArray, List.set_cons_zero, List.set_cons_succ, List.getElem_toArray, List.getElem_cons_zero, List.getElem_cons_succ]
        clear hy BA
        obtain ⟨v0, v1, v2⟩ := cells3 XI.out
        have z0 := XI.out.frz 0
        have z1 := XI.out.frz 1
        have z2 := XI.out.frz 2
        refine pe_last _ rfl ?_
        simp only [List.getElem_toArray, List.getElem_cons_zero, List.getElem_cons_succ]
        go_wp2_with fail
        go_meet
        obtain ⟨xi, ui⟩ := rset3 XI.out (.int .i64 pv) (.string D) (.slice none 0 0)
        exact ⟨y, rfl, xi, Y7.out.trans (ui.below YL.out), YL.out⟩
      · have BA := Lib.hid ((Below.refl w5.heap.size w5).alloc (Nat.le_refl _) (.cells #[.int .i64 0, .string ⟨#[]⟩, .slice none 0 0] 36))
        have Y6 := Lib.hid (Y5.out.trans (BA.out.mono Y5.out.size))
        obtain ⟨y, hy⟩ : ∃ y, w5.heap.size = y := ⟨_, rfl⟩
        have YL := Lib.hid (show wr.heap.size ≤ y by rw [← hy]; exact Y5.out.size)
        have XI := Lib.hid (show Blk (w5.alloc (.cells #[.int .i64 0, .string ⟨#[]⟩, .slice none 0 0] 36)) y 3 (rowL [.int .i64 0, .string ⟨#[]⟩, .slice none 0 0]) from Blk.new' hy.symm (row3_ _ _ _))
        refine pe_value (w' := w5.alloc (.cells #[.int .i64 0, .string ⟨#[]⟩, .slice none 0 0] 36)) _ (.pointer (some ⟨y, 0, none⟩)) rfl rfl (by rw [← hy]; go_simp) Y6.out ?_
        generalize w5.alloc (.cells #[.int .i64 0, .string ⟨#[]⟩, .slice none 0 0] 36) = w7 at *
        simp only [Act.put, List.setIfInBounds_toArray, List.set_cons_zero, List.set_cons_succ, List.getElem_toArray, List.getElem_cons_zero, List.getElem_cons_succ]
        clear hy BA
        refine pe_call (R := fun v w' => v = .string D ∧ Below w7.heap.size w7 w') _ rfl rfl (by go_simp) ((HDX.out w7 Y6.out).mono fun e w' h => ⟨.string D, h.1, rfl, h.2⟩) (fun v w' h => Y6.out.trans (h.2.mono Y6.out.size)) fun v w6 hr => ?_
        obtain ⟨rfl, hb⟩ := hr
        have Y7 := Lib.hid (Y6.out.trans (hb.mono Y6.out.size))
        have XJ := Lib.hid (XI.out.below hb XI.out.lt)
        clear hb
        simp only [Act.put, List.setIfInBounds_toArray, List.set_cons_zero, List.set_cons_succ, List.getElem_toArray, List.getElem_cons_zero, List.getElem_cons_succ]
        iterate 1 (refine pe_run _ ?_ rfl rfl ?_ ?_; rotate_left; (focus (intro w' hS; go_simp; exact rfl)); simp only [Act.put, List.setIfInBounds_toArray, List.set_cons_zero, List.set_cons_succ, List.getElem_toArray, List.getElem_cons_zero, List.getElem_cons_succ])
        obtain ⟨v0, v1, v2⟩ := cells3 XJ.out
        have z0 := XJ.out.frz 0
        have z1 := XJ.out.frz 1
        have z2 := XJ.out.frz 2
        refine pe_last _ rfl ?_
        simp only [List.getElem_toArray, List.getElem_cons_zero, List.getElem_cons_succ]
        go_wp2_with fail
        go_meet
        obtain ⟨xi, ui⟩ := rset3 XJ.out (.int .i64 pv) (.string D) (.slice none 0 0)
        exact ⟨y, rfl, xi, Y7.out.trans (ui.below YL.out), YL.out⟩
    case rest =>
      obtain ⟨y, rfl, hy, hbx, hyl⟩ := hcut
      have HY := Lib.hid hy
      have YB := Lib.hid hbx
      have YL := Lib.hid hyl
      clear hy hbx hyl
      obtain ⟨m1, m2⟩ := cells2 (M3.out.below YB.out M3.out.lt)
      obtain ⟨k7, hk7⟩ : ∃ k7, b % 7 = k7 := ⟨_, rfl⟩
      have e7 : ((b : Nat) : Int).tmod 7 = (k7 : Int) := by rw [Int.tmod_eq_emod_of_nonneg (by omega), ← hk7]; simp
      have e7' : (b : Int) % 7 = (k7 : Int) := by rw [← hk7]; simp
      have ew : IntKind.i64.wrap (b : Int) = (b : Int) := by rw [IntKind.wrap_i64]; have := HB.out; omega
      clear hk7
      go_upto_if 53 with fail
      clear e7 e7'
      go_cut [11] from 54 to 59 (fun s wx => s = .pointer (some ⟨y, 0, none⟩) ∧ ∃ cv ch, Blk wx y 3 (rowL [.int .i64 cv, .string ch, .slice none 0 0]) ∧ ch.size ≤ 1000000 ∧ Below wr.heap.size wr wx)
      case first =>
        obtain ⟨d0, d1, d2⟩ := cells3 HY.out
        have z0 := HY.out.frz 0
        have z1 := HY.out.frz 1
        have z2 := HY.out.frz 2
        by_cases h7 : k7 = 0
        · have t7 : ((k7 : Int) == 0) = true := by rw [h7]; rfl
          have t7' : (k7 : Int) = 0 := by omega
          clear h7
          go_wp2_with fail
          go_meet
          obtain ⟨xi, ui⟩ := rset3 HY.out (.int .i64 (b : Int)) (.string D) (.slice none 0 0)
          exact ⟨rfl, _, _, xi, by have := HD32.out; omega, YB.out.trans (ui.below YL.out)⟩
        · have t7 : ((k7 : Int) == 0) = false := by rw [beq_eq_false_iff_ne]; omega
          have t7' : ¬ (k7 : Int) = 0 := by omega
          clear h7
          go_wp2_with fail
          go_meet
          exact ⟨rfl, _, _, HY.out, by have := HD32.out; omega, YB.out⟩
      case rest =>
        obtain ⟨rfl, cv, ch, hy, hch, hbx⟩ := hcut
        have HY2 := Lib.hid hy
        have YB2 := Lib.hid hbx
        have HCH := Lib.hid hch
        clear hy hch hbx m1 m2 ew
        obtain ⟨m1, m2⟩ := cells2 (M3.out.below YB2.out M3.out.lt)
        obtain ⟨k7, hk7⟩ : ∃ k7, b % 11 = k7 := ⟨_, rfl⟩
        have e7 : ((b : Nat) : Int).tmod 11 = (k7 : Int) := by rw [Int.tmod_eq_emod_of_nonneg (by omega), ← hk7]; simp
        have e7' : (b : Int) % 11 = (k7 : Int) := by rw [← hk7]; simp
        clear hk7
        go_upto_if 63 with fail
        clear e7 e7'
        go_cut [11] from 64 to 66 (fun s wx => s = .pointer (some ⟨y, 0, none⟩) ∧ ∃ cv ch, Blk wx y 3 (rowL [.int .i64 cv, .string ch, .slice none 0 0]) ∧ ch.size ≤ 1000000 ∧ Below wr.heap.size wr wx)
        case first =>
          obtain ⟨d0, d1, d2⟩ := cells3 HY2.out
          have z0 := HY2.out.frz 0
          have z1 := HY2.out.frz 1
          have z2 := HY2.out.frz 2
          obtain ⟨d3, d4, d5, d6⟩ := cells4 (W3.out.below YB2.out W3.out.lt)
          by_cases h7 : k7 = 0
          · have t7' : (k7 : Int) = 0 := by omega
            clear h7
            go_wp2_with fail
            go_meet
            obtain ⟨xi, ui⟩ := rset3 HY2.out (.int .i64 0) (.string F.root) (.slice none 0 0)
            exact ⟨rfl, _, _, xi, by have := HWF.out.root32; omega, YB2.out.trans (ui.below YL.out)⟩
          · have t7 : ((k7 : Int) == 0) = false := by rw [beq_eq_false_iff_ne]; omega
            have t7' : ¬ (k7 : Int) = 0 := by omega
            clear h7
            go_wp2_with fail
            go_meet
            exact ⟨rfl, _, _, HY2.out, HCH.out, YB2.out⟩
        case rest =>
          obtain ⟨rfl, xv, xh, hy, hch, hbx⟩ := hcut
          have HY3 := Lib.hid hy
          have YB3 := Lib.hid hbx
          have HXH := Lib.hid hch
          clear hy hch hbx m1 m2
          obtain ⟨⟨hh, mm⟩, hcom⟩ : ∃ R, commitF F xv xh = R := ⟨_, rfl⟩
          have HCOM := Lib.hid hcom
          obtain ⟨⟨x1, x2⟩, hlea⟩ : ∃ R, learnS F (s1, s2) xv xh = R := ⟨_, rfl⟩
          obtain ⟨hup, rfl⟩ : s2 ≤ x2 ∧ x1 = s1 := by
            have := learn_up F (s1, s2) xv xh
            rw [hlea] at this
            exact this
          have HLEA := Lib.hid hlea
          have HUP := Lib.hid hup
          clear hcom hlea hup
          obtain ⟨d0, d1, d2⟩ := cells3 HY3.out
          go_wp2_with fail
          refine (commit_any (HCF3.out.on YB3.out) xv xh none 0 0 HXH.out hh mm HCOM.out).mono ?_
          rintro e w6 ⟨rfl, hb6⟩
          have YB6 := Lib.hid (YB3.out.trans (hb6.mono YB3.out.size))
          have HY6 := Lib.hid (HY3.out.below hb6 HY3.out.lt)
          clear hb6 d0 d1 d2
          obtain ⟨d0, d1, d2⟩ := cells3 HY6.out
          obtain ⟨d3, d4, d5, d6⟩ := cells4 (W3.out.below YB6.out W3.out.lt)
          go_wp2_with fail
          refine (rcommit_any F HWF.out HSF.out na nn nc oa ow oc _ (HFO3.out.later YB6.out) xv xh none 0 0 hh mm HCOM.out).mono ?_
          rintro e w7 ⟨rfl, hb7⟩
          have YB7 := Lib.hid (YB6.out.trans (hb7.mono YB6.out.size))
          have HY7 := Lib.hid (HY6.out.below hb7 HY6.out.lt)
          clear hb7 d0 d1 d2 d3 d4 d5 d6
          obtain ⟨d0, d1, d2⟩ := cells3 HY7.out
          obtain ⟨d3, d4⟩ := cells2 (L3.out.below YB7.out L3.out.lt)
          go_wp2_with fail
          refine (learn_any (HCF3.out.on YB7.out) x1 s2 xv xh none 0 0 HXH.out x1 x2 HLEA.out).mono ?_
          rintro e w8 ⟨rfl, hb8⟩
          have YB8 := Lib.hid ((YB7.out.trans (hb8.mono YB7.out.size)).alloc (Nat.le_trans YB7.out.size hb8.size) (.cells #[.int .i64 x1, .int .i64 x2] 24))
          have HY8 := Lib.hid ((HY7.out.below hb8 HY7.out.lt).alloc (.cells #[.int .i64 x1, .int .i64 x2] 24))
          have HX8 := Lib.hid (show Blk (w8.alloc (.cells #[.int .i64 x1, .int .i64 x2] 24)) w8.heap.size 2 (rowL [.int .i64 x1, .int .i64 x2]) from Blk.new' rfl (row2_ _ _))
          clear hb8 d0 d1 d2 d3 d4
          go_upto_region 13 with fail
          obtain ⟨w9, hw9⟩ : ∃ w9, w8.alloc (.cells #[.int .i64 x1, .int .i64 x2] 24) = w9 := ⟨_, rfl⟩
          obtain ⟨q9, hq9⟩ : ∃ q9, w8.heap.size = q9 := ⟨_, rfl⟩
          rw [hw9] at YB8 HY8 HX8 ⊢
          rw [hq9] at HX8 ⊢
          clear hw9 hq9
          have HSC := Lib.hid (fun (wx : World) (hb : Below w9.heap.size w9 wx) => show (wx.cell? ⟨q9, 0, none⟩ = some (.int .i64 x1) ∧ wx.cell? ⟨q9, 1, none⟩ = some (.int .i64 x2)) ∧ (wx.cell? ⟨w.heap.size, 0, none⟩ = some (.int .i64 x1) ∧ wx.cell? ⟨w.heap.size, 1, none⟩ = some (.int .i64 s2)) ∧ (wx.cell? ⟨q, 0, none⟩ = some (.string F.root) ∧ wx.cell? ⟨q, 1, none⟩ = some (.int .i64 F.height) ∧ wx.cell? ⟨q, 2, none⟩ = some (.slice na nn nc) ∧ wx.cell? ⟨q, 3, none⟩ = some (.slice oa ow oc)) ∧
              wx.cell? ⟨y, 0, none⟩ = some (.int .i64 xv) ∧ wx.cell? ⟨y, 1, none⟩ = some (.string xh) ∧ wx.cell? ⟨y, 2, none⟩ = some (.slice none 0 0) from
            ⟨cells2 (HX8.out.below hb HX8.out.lt), cells2 (L3.out.below (YB8.out.trans (hb.mono YB8.out.size)) L3.out.lt), cells4 (W3.out.below (YB8.out.trans (hb.mono YB8.out.size)) W3.out.lt), cells3 (HY8.out.below hb HY8.out.lt)⟩)
          have u1 : decide (s2 ≤ x2) = true := decide_eq_true HUP.out
          refine plan_abs (fun wx => Below w9.heap.size w9 wx) [(true, 0), (true, 1), (true, 2), (true, 3), (true, 4), (true, 5), (true, 6), (true, 7), (true, 8), (true, 9), (true, 10), (true, 11), (true, 12), (false, 13), (true, 14), (true, 15), (true, 16), (true, 17), (true, 18), (true, 19), (true, 20), (true, 21), (true, 22), (true, 23), (true, 24), (true, 25), (true, 26), (true, 27), (true, 28), (true, 29), (true, 30)] (by kernel_rfl) (by kernel_rfl) (fun _ _ d _ _ h => by cases d <;> exact h) fun w10 hs10 => ⟨hs10.below _, ?_⟩
          have Z10 := Lib.hid (show Below w9.heap.size w9 w10 from hs10.below _)
          clear hs10
          iterate 13 (refine pl_run _ ?_ rfl rfl ?_ ?_; rotate_left; (focus (intro w' hS; obtain ⟨⟨d0, d1⟩, ⟨d2, d3⟩, ⟨d4, d5, d6, d7⟩, d8, d9, d10⟩ := HSC.out w' hS; go_simp; exact rfl)); simp only [Act.put, List.setIfInBounds_toArray, List.set_cons_zero, List.set_cons_succ, List.getElem_toArray, List.getElem_cons_zero, List.getElem_cons_succ])
          refine pl_call1 (v := .agg #[.int .i64 x1, .int .i64 x2]) (R := fun w' => Below w10.heap.size w10 w') _ rfl rfl (by go_simp) (rlearn_any F HWF.out HSF.out na nn nc oa ow oc _ (HFO3.out.later (YB8.out.trans (Z10.out.mono YB8.out.size))) x1 s2 xv xh none 0 0 x1 x2 HLEA.out) (fun w' h => Z10.out.trans (h.mono Z10.out.size)) fun w11 hb11 => ?_
          have Z11 := Lib.hid (Z10.out.trans (hb11.mono Z10.out.size))
          clear hb11
          simp only [Act.put, List.setIfInBounds_toArray, List.set_cons_zero, List.set_cons_succ, List.getElem_toArray, List.getElem_cons_zero, List.getElem_cons_succ]
          iterate 17 (refine pl_run _ ?_ rfl rfl ?_ ?_; rotate_left; (focus (intro w' hS; obtain ⟨⟨d0, d1⟩, ⟨d2, d3⟩, ⟨d4, d5, d6, d7⟩, d8, d9, d10⟩ := HSC.out w' hS; go_simp; exact rfl)); simp only [Act.put, List.setIfInBounds_toArray, List.set_cons_zero, List.set_cons_succ, List.getElem_toArray, List.getElem_cons_zero, List.getElem_cons_succ])
          refine pl_end ?_
          go_wp2_with fail
          go_ret
          exact ⟨rfl, X3.out.trans ((YB8.out.trans (Z11.out.mono YB8.out.size)).mono X3.out.size)⟩
  · by_cases h1 : 30 < l.length
    · have t1 : decide ((30 : Int) < (l.length : Int)) = true := decide_eq_true (by omega)
      clear h30 h1
      go_enter Tryd.func3, Tryd.ntmps3
      go_wp2_with fail
      refine (rawake_any _).mono ?_
      rintro e w1 ⟨rfl, hb1⟩
      have X1 := Lib.hid (X0.out.trans (hb1.mono X0.out.size))
      clear hb1
      go_wp2_with fail
      refine (rawake_any _).mono ?_
      rintro e w2 ⟨rfl, hb2⟩
      have X2 := Lib.hid (X1.out.trans (hb2.mono X1.out.size))
      clear hb2
      go_wp2_with fail
      go_ret
      exact ⟨rfl, X2.out⟩
    · have t1 : decide ((30 : Int) < (l.length : Int)) = false := decide_eq_false (by omega)
      have t2 : ((l.length : Int) == 0) = true := by rw [beq_iff_eq]; omega
      clear h30 h1
      go_enter Tryd.func3, Tryd.ntmps3
      go_wp2_with fail
      refine (rawake_any _).mono ?_
      rintro e w1 ⟨rfl, hb1⟩
      have X1 := Lib.hid (X0.out.trans (hb1.mono X0.out.size))
      clear hb1
      go_wp2_with fail
      refine (rawake_any _).mono ?_
      rintro e w2 ⟨rfl, hb2⟩
      have X2 := Lib.hid (X1.out.trans (hb2.mono X1.out.size))
      clear hb2
      go_wp2_with fail
      go_ret
      exact ⟨rfl, X2.out⟩
end Go.Proofs.YtlpnggdghmccjaaDoor
end
