/-
  The walk of the law CertHolds.
-/
import Derived.Test.YtigoaokpodggcaaDoorKERefH
import Derived.Test.YtigoaokpodggcaaDoorKWFew
open Go Go.RowKit
namespace CC
open MM WW BB
/-- the cells cs of block g, wherever nothing that was there in w0 is turned -/
theorem box_on {w0 : World} {cs : List Value} {g : Nat} {w wx : World} (h : BoxAt w g cs w0) (hb : Below w0.heap.size w0 wx) (i : Nat) (u : Value) (hu : cs[i]? = some u) : wx.cell? ⟨g, i, none⟩ = some u :=
  (hb.cell (p := ⟨g, i, none⟩) h.lt).trans (h.cell i u hu)
theorem fewcert_facts {k : ByteArray} {l : List (Int × List ByteArray)} (h : fewCert k l = true) (v : Int) : SmallS l ∧ k.size ≤ 1000 ∧ (certB v k l).size ≤ 1000000 ∧ MemS l := by
  obtain ⟨h1, h2, h3⟩ := few_smallS h
  refine ⟨h1, by omega, ?_, by have := h1.1; omega, fun i hi => by have := (h1.2.2 i hi).2; omega⟩
  rw [certB_size]
  have := h1.2.1
  omega
theorem ints_nth {w : World} {v : Value} {G : List Int} (h : IntsAt w v G) : ∃ a0 cap, v = .slice a0 G.length cap ∧ ∀ i, i < G.length → ∃ b off, a0 = some ⟨b, off, none⟩ ∧ b < w.heap.size ∧ w.cell? ⟨b, off + i, none⟩ = some (.int .i64 (G.getD i 0)) := by
  obtain ⟨a0, cap, rfl, _, h | ⟨b, off, rfl, hl, hc⟩⟩ := h
  · exact ⟨a0, cap, rfl, fun i hi => by rw [h] at hi; simp at hi⟩
  · exact ⟨_, cap, rfl, fun i hi => ⟨b, off, rfl, hl, hc i hi⟩⟩
end CC
namespace Go.Proofs.YtigoaokpodggcaaDoor
open CC MM WW BB
theorem fewcert5_is (v : Int) (k : ByteArray) (sv : Value) (l : List (Int × List ByteArray)) (b : Bool) (hb : fewCert k l = b) (w : World) (hv : SigsAt w sv l) (hn : MemS l) (hk : k.size ≤ 9223372036854775807) :
    Calls Tryd.prog 9 #[.agg #[.int .i64 v, .string k, sv]] w fun e w' => e = .returned (.bool b) ∧ Below w.heap.size w w' := hb ▸ fewcert_any v k sv l w hv hn hk
theorem rhold_is (b : Bool) (s : ByteArray) (d n v : Int) (k : ByteArray) (sv : Value) (l : List (Int × List ByteArray)) (hb : certHolds s d n v k l = b) (w : World) (hv : SigsAt w sv l) (hn : MemS l) (hs : s.size ≤ 1000) :
    Calls Tryd.prog 13 #[.string s, .int .i64 d, .int .i64 n, .agg #[.int .i64 v, .string k, sv]] w fun e w' => e = .returned (.bool b) ∧ Below w.heap.size w w' := hb ▸ rhold_any s d n v k sv l w hv hn hs
set_option maxRecDepth 100000 in
set_option maxHeartbeats 8000000 in
theorem lawh_big (s : ByteArray) (a b v : Int) (k : ByteArray) (sv : Value) (l : List (Int × List ByteArray)) (w : World) (hv : SigsAt w sv l) (hn : MemS l) (hk : k.size ≤ 9223372036854775807) (h : 60 < s.size ∨ s.size ≤ 60 ∧ fewCert k l = false) (hT : Tabs w) :
    Calls Tryd.prog 3 #[.string s, .agg #[.int .i64 v, .string k, sv], .agg #[.int .i64 a, .int .i64 b]] w fun e w' => e = .returned (.bool true) ∧ Below w.heap.size w w' := by
  have HV := Lib.hid hv
  have HN := Lib.hid hn
  have HK := Lib.hid hk
  have HT := Lib.hid hT
  obtain ⟨a0, cap, rfl, _⟩ := hv
  clear hn hk hT
  have b1 := Lib.hid (((Below.refl w.heap.size w).alloc (Nat.le_refl _) (.cells #[.int .i64 v, .string k, .slice a0 l.length cap] 24)).alloc (by simp) (.cells #[.int .i64 a, .int .i64 b] 25))
  have X0 := Lib.hid ((box_mk w [.int .i64 v, .string k, .slice a0 l.length cap] 24).on ((Below.refl _ _).alloc (Nat.le_refl _) (.cells #[.int .i64 a, .int .i64 b] 25)))
  rcases h with h | ⟨h, h2⟩
  · have t1 : (60 : Int) < (s.size : Int) := by omega
    clear h
    go_enter Tryd.func3, Tryd.ntmps3
    go_wp2_with fail
    refine (awake5_any _ (tabs_on HT.out b1.out)).mono ?_
    rintro e w2 ⟨rfl, hb2⟩
    have B2 := Lib.hid (b1.out.trans (hb2.mono b1.out.size))
    clear hb2 b1
    go_wp2_with fail
    refine (awake5_any _ (tabs_on HT.out B2.out)).mono ?_
    rintro e w3 ⟨rfl, hb3⟩
    have B3 := Lib.hid (B2.out.trans (hb3.mono B2.out.size))
    clear hb3
    go_wp2_with fail
    go_ret
    exact ⟨rfl, B3.out⟩
  · have t1 : ¬ (60 : Int) < (s.size : Int) := by omega
    have H2 := Lib.hid h2
    clear h h2
    go_enter Tryd.func3, Tryd.ntmps3
    go_wp2_with fail
    refine (awake5_any _ (tabs_on HT.out b1.out)).mono ?_
    rintro e w2 ⟨rfl, hb2⟩
    have B2 := Lib.hid (b1.out.trans (hb2.mono b1.out.size))
    have c0 := box_on X0.out hb2 0 _ rfl
    have c1 := box_on X0.out hb2 1 _ rfl
    have c2 := box_on X0.out hb2 2 _ rfl
    clear hb2 b1
    go_wp2_with fail
    refine (fewcert5_is v k _ l false H2.out w2 (HV.out.later B2.out) HN.out HK.out).mono ?_
    rintro e w3 ⟨rfl, hb3⟩
    have B3 := Lib.hid (B2.out.trans (hb3.mono B2.out.size))
    clear hb3 c0 c1 c2
    go_wp2_with fail
    refine (awake5_any _ (tabs_on HT.out B3.out)).mono ?_
    rintro e w4 ⟨rfl, hb4⟩
    have B4 := Lib.hid (B3.out.trans (hb4.mono B3.out.size))
    clear hb4
    go_wp2_with fail
    go_ret
    exact ⟨rfl, B4.out⟩
set_option maxRecDepth 100000 in
set_option maxHeartbeats 16000000 in
theorem lawh_in (s : ByteArray) (a b v : Int) (k : ByteArray) (sv : Value) (l : List (Int × List ByteArray)) (w : World) (hv : SigsAt w sv l) (hs : s.size ≤ 60) (hf : fewCert k l = true) (hb : b ≤ 9223372036854775807) (hT : Tabs w) :
    Calls Tryd.prog 3 #[.string s, .agg #[.int .i64 v, .string k, sv], .agg #[.int .i64 a, .int .i64 b]] w fun e w' => e = .returned (.bool true) ∧ Below w.heap.size w w' := by
  obtain ⟨hsm, hk, hz, hmem⟩ := fewcert_facts hf v
  have HV := Lib.hid hv
  have HSM := Lib.hid hsm
  have HK := Lib.hid hk
  have HZ := Lib.hid hz
  have HMM := Lib.hid hmem
  have HF := Lib.hid hf
  have HB := Lib.hid hb
  have HT := Lib.hid hT
  have HS := Lib.hid (show s.size ≤ 1000 by omega)
  have t1 : ¬ (60 : Int) < (s.size : Int) := by omega
  obtain ⟨a0, cap, rfl, _⟩ := hv
  clear hsm hk hz hmem hf hb hT hs
  have b1 := (((Below.refl w.heap.size w).alloc (Nat.le_refl _) (.cells #[.int .i64 v, .string k, .slice a0 l.length cap] 24)).alloc (by simp) (.cells #[.int .i64 a, .int .i64 b] 25))
  have X0 := ((box_mk w [.int .i64 v, .string k, .slice a0 l.length cap] 24).on ((Below.refl _ _).alloc (Nat.le_refl _) (.cells #[.int .i64 a, .int .i64 b] 25)))
  have X1 := box_mk (w.alloc (.cells #[.int .i64 v, .string k, .slice a0 l.length cap] 24)) [.int .i64 a, .int .i64 b] 25
  rw [show (w.alloc (.cells #[.int .i64 v, .string k, .slice a0 l.length cap] 24)).heap.size = w.heap.size + 1 by simp] at X1
  go_enter Tryd.func3, Tryd.ntmps3
  go_wp2_with fail
  obtain ⟨g, hg⟩ : ∃ g, w.heap.size = g := ⟨_, rfl⟩
  have HG := Lib.hid hg
  obtain ⟨w0, hw0⟩ : ∃ w0, (w.alloc (.cells #[.int .i64 v, .string k, .slice a0 l.length cap] 24)).alloc (.cells #[.int .i64 a, .int .i64 b] 25) = w0 := ⟨_, rfl⟩
  have e0 : (w.alloc (.cells [.int .i64 v, .string k, .slice a0 l.length cap].toArray 24)).alloc (.cells #[.int .i64 a, .int .i64 b] 25) = w0 := hw0
  have e1 : (w.alloc (.cells #[.int .i64 v, .string k, .slice a0 l.length cap] 24)).alloc (.cells [.int .i64 a, .int .i64 b].toArray 25) = w0 := hw0
  rw [e0] at X0
  rw [e1] at X1
  rw [hw0] at b1 ⊢
  rw [hg] at X0 X1 ⊢
  clear hg hw0 e0 e1
  have B1 := Lib.hid b1
  have HX0 := Lib.hid (fun (wx : World) (hb : Below w0.heap.size w0 wx) => And.intro (box_on X0 hb 0 _ rfl) (And.intro (box_on X0 hb 1 _ rfl) (box_on X0 hb 2 _ rfl)))
  have HX1 := Lib.hid (fun (wx : World) (hb : Below w0.heap.size w0 wx) => And.intro (box_on X1 hb 0 _ rfl) (box_on X1 hb 1 _ rfl))
  have HV1 := Lib.hid (fun (wx : World) (hb : Below w0.heap.size w0 wx) => HV.out.later (b1.trans (hb.mono b1.size)))
  have HT1 := Lib.hid (fun (wx : World) (hb : Below w0.heap.size w0 wx) => tabs_on HT.out (b1.trans (hb.mono b1.size)))
  clear b1 X0 X1
  refine (awake5_any _ (HT1.out w0 (Below.refl _ _))).mono ?_
  rintro e w2 ⟨rfl, hb2⟩
  have B2 := Lib.hid hb2
  obtain ⟨c0, c1, c2⟩ := HX0.out w2 hb2
  clear hb2
  go_wp2_with fail
  refine (fewcert5_is v k _ l true HF.out w2 (HV1.out w2 B2.out) HMM.out (by have := HK.out; omega)).mono ?_
  rintro e w3 ⟨rfl, hb3⟩
  have B3 := Lib.hid (B2.out.trans (hb3.mono B2.out.size))
  clear c0 c1 c2 hb3
  obtain ⟨c0, c1⟩ := HX1.out w3 B3.out
  go_wp2_with fail
  go_quiet (fail)
  clear c0 c1
  have B4 := Lib.hid (below_drewI B3.out nq)
  generalize w3.drewN nq = w4 at *
  clear B3
  obtain ⟨c0, c1, c2⟩ := HX0.out w4 B4.out
  have hst := start3 (w := w0) (g := g) (v0 := .int .i64 v) (v1 := .string k) (v2 := .slice a0 l.length cap) (B := w0.heap.size) c0 c1 c2 B4.out B4.out.size
  obtain ⟨G, hG⟩ : ∃ G, goodL s a b v k l = G := ⟨_, rfl⟩
  have HGG := Lib.hid (fun wx (hb : Below w0.heap.size w0 wx) => hG ▸ good_any s a b v k (.slice a0 l.length cap) l wx (HV1.out wx hb) HS.out HK.out HSM.out HZ.out (HT1.out wx hb))
  have HGR := Lib.hid (fun wx (hb : Below w0.heap.size w0 wx) => hG ▸ rgood_any s a b v k (.slice a0 l.length cap) l wx (HV1.out wx hb) HMM.out HS.out)
  have HGO := Lib.hid hG
  clear c0 c1 c2 hG
  go_wp2_with fail
  go_region_held3 (fun w' => w'.cell? ⟨g, 0, none⟩ = some (.int .i64 v) ∧ w'.cell? ⟨g, 1, none⟩ = some (.string k) ∧ w'.cell? ⟨g, 2, none⟩ = some (.slice a0 l.length cap) ∧ Below w0.heap.size w0 w' ∧ w0.heap.size ≤ w'.heap.size)
    (first | exact hst | exact hk)
    (first
      | (go_at_call 10; refine (HGG.out _ (by assumption : _ ∧ _ ∧ _ ∧ Below w0.heap.size w0 _ ∧ _).2.2.2.1).mono ?_; rintro e w5 ⟨v1, rfl, hi1, hb5⟩; have hk := keep3 (w := w0) (g := g) (v0 := .int .i64 v) (v1 := .string k) (v2 := .slice a0 l.length cap) (B := w0.heap.size) (by assumption) hb5; have HI1 := Lib.hid hi1; (try have HI2 := Lib.hid (HI2.out.later hb5)))
      | (go_at_call 11; refine (HGR.out _ (by assumption : _ ∧ _ ∧ _ ∧ Below w0.heap.size w0 _ ∧ _).2.2.2.1).mono ?_; rintro e w5 ⟨v1, rfl, hi1, hb5⟩; have hk := keep3 (w := w0) (g := g) (v0 := .int .i64 v) (v1 := .string k) (v2 := .slice a0 l.length cap) (B := w0.heap.size) (by assumption) hb5; have HI2 := Lib.hid hi1; (try have HI1 := Lib.hid (HI1.out.later hb5))))
  obtain ⟨ga, gcap, rfl, hga⟩ := ints_nth HI1.out
  obtain ⟨gb, gbap, rfl, hgb⟩ := ints_nth HI2.out
  have HGA := Lib.hid hga
  have HGB := Lib.hid hgb
  have B5 := Lib.hid hk.2.2.2.1
  have HGL := Lib.hid (show G.length ≤ 1000 by
    have h1 := HSM.out.1
    have h2 := HGO.out
    rw [← h2]
    unfold goodL
    split
    · have := good_len (fun p => holdsB s a b (textB v k) p.1 p.2) l l.length; omega
    · simp)
  clear hst hk hga hgb HI1 HI2 HGG HGR
  rename World => w6
  go_wp2_with fail
  go_loopw [11] (fun x wr => ∃ i : Nat, i ≤ G.length ∧ x = .int .i64 (i : Int) ∧ Below w6.heap.size w6 wr) (fun x _ => G.length - (intOf x).toNat)
  case atStart => exact ⟨0, Nat.zero_le _, rfl, Below.refl _ _⟩
  case round =>
    obtain ⟨i, hi, rfl, hb⟩ := hrel
    have HBX := Lib.hid hb
    have i0 : (0 : Int) ≤ (i : Int) := by omega
    clear hb
    by_cases hlt : i < G.length
    · have hlt' : (i : Int) < (G.length : Int) := by omega
      have ib : (i : Int) ≤ 1000 := by have := HGL.out; omega
      obtain ⟨ba, oa, rfl, ha1, ha2⟩ := HGA.out i hlt
      obtain ⟨bb, ob, rfl, hb1, hb2⟩ := HGB.out i hlt
      have ca := (HBX.out.cell (p := ⟨ba, oa + i, none⟩) ha1).trans ha2
      have cb := (HBX.out.cell (p := ⟨bb, ob + i, none⟩) hb1).trans hb2
      obtain ⟨x, hx⟩ : ∃ x, G.getD i 0 = x := ⟨_, rfl⟩
      rw [hx] at ca cb
      have HLT := Lib.hid hlt
      have tx : (x == x) = true := by simp
      clear hx ha1 ha2 hb1 hb2 hi hlt
      go_wp2_with fail
      go_quiet (fail)
      go_wp2_with fail
      go_roundw
      case rel => exact ⟨i + 1, by have := HLT.out; omega, by go_num, below_drewI HBX.out _⟩
      case measure => have := HLT.out; simp [intOf]; omega
    · obtain rfl : i = G.length := by omega
      have hlt' : ¬ (G.length : Int) < (G.length : Int) := by omega
      clear hi hlt
      have B7 := Lib.hid (B5.out.trans (HBX.out.mono B5.out.size))
      obtain ⟨c0, c1, c2⟩ := HX0.out wr B7.out
      have hst := start3 (w := w0) (g := g) (v0 := .int .i64 v) (v1 := .string k) (v2 := .slice a0 l.length cap) (B := w0.heap.size) c0 c1 c2 B7.out B7.out.size
      obtain ⟨H, hH⟩ : ∃ H, certHolds s a b v k l = H := ⟨_, rfl⟩
      have HHC := Lib.hid (fun wx (hb : Below w0.heap.size w0 wx) => chold_is H s a b v k (.slice a0 l.length cap) l hH wx (HV1.out wx hb) HB.out HS.out HK.out HSM.out HZ.out (HT1.out wx hb))
      have HHR := Lib.hid (fun wx (hb : Below w0.heap.size w0 wx) => rhold_is H s a b v k (.slice a0 l.length cap) l hH wx (HV1.out wx hb) HMM.out HS.out)
      have tH : (H == H) = true := by simp
      clear c0 c1 c2 hH
      go_wp2_with fail
      go_region_held3 (fun w' => w'.cell? ⟨g, 0, none⟩ = some (.int .i64 v) ∧ w'.cell? ⟨g, 1, none⟩ = some (.string k) ∧ w'.cell? ⟨g, 2, none⟩ = some (.slice a0 l.length cap) ∧ Below w0.heap.size w0 w' ∧ w0.heap.size ≤ w'.heap.size)
        (first | exact hst | exact hk)
        (first
          | (go_at_call 12; refine (HHC.out _ (by assumption : _ ∧ _ ∧ _ ∧ Below w0.heap.size w0 _ ∧ _).2.2.2.1).mono ?_; rintro e w5 ⟨rfl, hb5⟩; have hk := keep3 (w := w0) (g := g) (v0 := .int .i64 v) (v1 := .string k) (v2 := .slice a0 l.length cap) (B := w0.heap.size) (by assumption) hb5)
          | (go_at_call 13; refine (HHR.out _ (by assumption : _ ∧ _ ∧ _ ∧ Below w0.heap.size w0 _ ∧ _).2.2.2.1).mono ?_; rintro e w5 ⟨rfl, hb5⟩; have hk := keep3 (w := w0) (g := g) (v0 := .int .i64 v) (v1 := .string k) (v2 := .slice a0 l.length cap) (B := w0.heap.size) (by assumption) hb5))
      go_wp2_with fail
      go_ret
      exact ⟨by first | rfl | simp, B1.out.trans (hk.2.2.2.1.mono B1.out.size)⟩
theorem lawh_walk (s : ByteArray) (a b v : Int) (k : ByteArray) (sv : Value) (l : List (Int × List ByteArray)) (w : World) (hv : SigsAt w sv l) (hn : MemS l) (hk : k.size ≤ 9223372036854775807) (hb : b ≤ 9223372036854775807) (hT : Tabs w) :
    Calls Tryd.prog 3 #[.string s, .agg #[.int .i64 v, .string k, sv], .agg #[.int .i64 a, .int .i64 b]] w fun e w' => e = .returned (.bool true) ∧ Below w.heap.size w w' := by
  by_cases hs : s.size ≤ 60
  · rcases hf : fewCert k l with _ | _
    · exact lawh_big s a b v k sv l w hv hn hk (Or.inr ⟨hs, hf⟩) hT
    · exact lawh_in s a b v k sv l w hv hs hf hb hT
  · exact lawh_big s a b v k sv l w hv hn hk (Or.inl (by omega)) hT
theorem lawh_card (s : ByteArray) (v : Int) (k : ByteArray) (sv : Value) (l : List (Int × List ByteArray)) (a b : Int) (w : World) (hv : SigsAt w sv l) (hn : MemS l) (hk : k.size ≤ 9223372036854775807) (_ha : a ≤ 9223372036854775807) (hb : b ≤ 9223372036854775807) (hT : Tabs w) :
    Calls Tryd.prog 3 #[.string s, .agg #[.int .i64 v, .string k, sv], .agg #[.int .i64 a, .int .i64 b]] w fun e w' => e = .returned (.bool true) ∧ Below w.heap.size w w' := lawh_walk s a b v k sv l w hv hn hk hb hT
end Go.Proofs.YtigoaokpodggcaaDoor
