/-
  The walk of the law MacSigns.
-/
import Derived.Test.YtfbjjlejmcpphaaDoorMLawK
open Go Go.RowKit
namespace MM
open WW BB
theorem keepG {w w' w2 : World} {g B b i : Nat} {f : Int} {tv : Value} {u : ByteArray} (h : w'.cell? ⟨g, 0, none⟩ = some (.int .i64 f) ∧ w'.cell? ⟨g, 1, none⟩ = some tv ∧ w'.cell? ⟨b, i, none⟩ = some (.string u) ∧ Below B w w' ∧ B ≤ w'.heap.size) (hb : Below w'.heap.size w' w2) :
    w2.cell? ⟨g, 0, none⟩ = some (.int .i64 f) ∧ w2.cell? ⟨g, 1, none⟩ = some tv ∧ w2.cell? ⟨b, i, none⟩ = some (.string u) ∧ Below B w w2 ∧ B ≤ w2.heap.size := by
  have hl := World.block_lt_of_cell? w' _ h.1
  have hl2 := World.block_lt_of_cell? w' _ h.2.2.1
  exact ⟨(hb.cell (p := ⟨g, 0, none⟩) hl).trans h.1, (hb.cell (p := ⟨g, 1, none⟩) hl).trans h.2.1, (hb.cell (p := ⟨b, i, none⟩) hl2).trans h.2.2.1, h.2.2.2.1.trans (hb.mono h.2.2.2.2), Nat.le_trans h.2.2.2.2 hb.size⟩
/-- this is no node of n -/
def NoAm (f n : Int) : Prop := n < 1 ∨ ¬ n < 1 ∧ (7 < n ∨ ¬ 7 < n ∧ (f < 0 ∨ ¬ f < 0 ∧ n ≤ f))
theorem noAm_of {f n : Int} (h : amongB f n = false) : NoAm f n := by
  unfold NoAm
  have : ¬ amongB f n = true := by rw [h]; simp
  have h2 : ¬ (1 ≤ n ∧ n ≤ 7 ∧ 0 ≤ f ∧ f < n) := fun ⟨a, b, c, d⟩ => this (among_mk a b c d)
  omega
theorem strs_tags {t : TypeId} {w : World} {b n : Nat} {s tx : ByteArray} {f : Int} (h : TBlk t w b n (tagsF s f tx n)) : StrsAt w (.slice (some ⟨b, 0, none⟩) n n) (tagsL s f tx n) := by
  refine ⟨_, n, by rw [tagsL_len], Or.inr ⟨b, 0, rfl, h.lt, fun i hi => ?_⟩⟩
  rw [tagsL_len] at hi
  rw [tagsL_get _ _ _ _ _ hi, Nat.zero_add, h.blk.get i hi]
  unfold tagsF
  rw [if_pos hi]
theorem shaped_tags (s t : ByteArray) (f : Int) (n : Nat) : shapedB (tagsL s f t n) (n : Int) = true := by
  unfold shapedB
  rw [tagsL_len]
  simp [tagsL, tagB_size]
theorem holds_tags (s t : ByteArray) (f : Int) (n i : Nat) (h : amongB f (n : Int) = true) (hi : i < n) : holdsB s (i : Int) (n : Int) t f (tagsL s f t n) = true := by
  obtain ⟨h1, h2, h3, h4⟩ := among_of h
  unfold holdsB
  rw [among_mk h1 h2 (by omega) (by omega), h, shaped_tags, Int.toNat_natCast, tagsL_get _ _ _ _ _ hi]
  simp
end MM
namespace Go.Proofs.YtfbjjlejmcpphaaDoor
open MM WW BB
theorem nodes_is (n : Int) (b : Bool) (h : nodesB n = b) (w : World) : Calls Tryd.prog 14 #[.int .i64 n] w fun e w' => e = .returned (.bool b) ∧ w = w' := by subst h; exact nodes_any n w
theorem holds_is (s : ByteArray) (d n : Int) (t : ByteArray) (f : Int) (tv : Value) (ts : List ByteArray) (b : Bool) (h : holdsB s d n t f ts = b) (w : World) (hv : StrsAt w tv ts) (hn : ts.length ≤ 9223372036854775807) (hs : s.size ≤ 1000) (ht : t.size ≤ 100000) (hT : Tabs w) :
    Calls Tryd.prog 15 #[.string s, .int .i64 d, .int .i64 n, .string t, .agg #[.int .i64 f, tv]] w fun e w' => e = .returned (.bool b) ∧ Below w.heap.size w w' := by subst h; exact holds_any s d n t f tv ts w hv hn hs ht hT
theorem zerosig_zero (w : World) : Calls Tryd.prog 13 #[.agg #[.int .i64 0, .slice none 0 0]] w fun e w' => e = .returned (.bool true) ∧ Below w.heap.size w w' := by
  go_enter Tryd.func13, Tryd.ntmps13
  go_wp2_with fail
  go_ret
  exact ⟨rfl, (Below.refl _ _).alloc (Nat.le_refl _) _⟩
set_option maxRecDepth 100000 in
set_option maxHeartbeats 4000000 in
theorem msigns_no (s t : ByteArray) (f n : Int) (h : amongB f n = false) (hs : s.size ≤ 60) (ht : t.size ≤ 60) (w : World) :
    Calls Tryd.prog 4 #[.string s, .string t, .agg #[.int .i64 f, .int .i64 n]] w fun e w' => e = .returned (.bool true) ∧ Below w.heap.size w w' := by
  have t1 : ¬ (60 : Int) < (s.size : Int) := by omega
  have t2 : ¬ (60 : Int) < (t.size : Int) := by omega
  have HC := Lib.hid (noAm_of h)
  have HA := Lib.hid h
  clear hs ht h
  go_enter Tryd.func4, Tryd.ntmps4
  go_wp2_with fail
  have X0 := Lib.hid (box_mk w [.int .i64 f, .int .i64 n] 22)
  obtain ⟨g, hg⟩ : ∃ g, w.heap.size = g := ⟨_, rfl⟩
  rw [hg] at X0
  have HG := Lib.hid hg
  rw [hg]
  clear hg
  generalize w.alloc (.cells #[.int .i64 f, .int .i64 n] 22) = w0 at *
  refine (awake3_any w0).mono ?_
  rintro e w1 ⟨rfl, hb1⟩
  have X1 := Lib.hid (X0.out.on hb1)
  clear X0 hb1
  have c0 := X1.out.cell 0 _ rfl
  have c1 := X1.out.cell 1 _ rfl
  go_wp2_with fail
  go_quiet (fail)
  have X2 : ∀ m, Hid (BoxAt w g [.int .i64 f, .int .i64 n] (w1.drewN m)) := fun m => Lib.hid (X1.out.on (below_drewN (Below.refl _ _) m))
  clear X1 c0 c1
  go_wp2_with fail
  refine (sign_err s f n t HA.out _).mono ?_
  rintro e w2 ⟨rfl, hb2⟩
  have X3 := Lib.hid ((X2 _).out.on hb2)
  clear hb2 X2
  rcases HC.out with h | ⟨h1, h | ⟨h2, h | ⟨h3, h⟩⟩⟩
  · have e1 : decide (1 ≤ n) = false := by simp; omega
    have HNB := Lib.hid (show nodesB n = false by unfold nodesB; rw [e1, Bool.false_and])
    clear HC
    go_wp2_with fail
    have X4 := Lib.hid (X3.out.on ((Below.refl w2.heap.size w2).alloc (Nat.le_refl _) (.cells #[.int .i64 0, .slice none 0 0] 29)))
    generalize w2.alloc (.cells #[.int .i64 0, .slice none 0 0] 29) = w3 at *
    refine (zerosig_zero _).mono ?_
    rintro e w4 ⟨rfl, hb4⟩
    have X5 := Lib.hid (X4.out.on hb4)
    clear hb4 X4 X3
    go_wp2_with fail
    refine (nodes_is n false HNB.out _).mono ?_
    rintro e w' ⟨rfl, rfl⟩
    go_wp2_with fail
    go_ret
    exact ⟨rfl, X5.out.below⟩
  · have e1 : decide (1 ≤ n) = true := by simp; omega
    have e2 : decide (n ≤ 7) = false := by simp; omega
    have HNB := Lib.hid (show nodesB n = false by unfold nodesB; rw [e2, Bool.and_false])
    clear HC
    go_wp2_with fail
    have X4 := Lib.hid (X3.out.on ((Below.refl w2.heap.size w2).alloc (Nat.le_refl _) (.cells #[.int .i64 0, .slice none 0 0] 29)))
    generalize w2.alloc (.cells #[.int .i64 0, .slice none 0 0] 29) = w3 at *
    refine (zerosig_zero _).mono ?_
    rintro e w4 ⟨rfl, hb4⟩
    have X5 := Lib.hid (X4.out.on hb4)
    clear hb4 X4 X3
    go_wp2_with fail
    refine (nodes_is n false HNB.out _).mono ?_
    rintro e w' ⟨rfl, rfl⟩
    go_wp2_with fail
    go_ret
    exact ⟨rfl, X5.out.below⟩
  · have e1 : decide (1 ≤ n) = true := by simp; omega
    have e2 : decide (n ≤ 7) = true := by simp; omega
    have HNB := Lib.hid (show nodesB n = true by unfold nodesB; rw [e1, e2]; rfl)
    clear HC
    go_wp2_with fail
    have X4 := Lib.hid (X3.out.on ((Below.refl w2.heap.size w2).alloc (Nat.le_refl _) (.cells #[.int .i64 0, .slice none 0 0] 29)))
    generalize w2.alloc (.cells #[.int .i64 0, .slice none 0 0] 29) = w3 at *
    refine (zerosig_zero _).mono ?_
    rintro e w4 ⟨rfl, hb4⟩
    have X5 := Lib.hid (X4.out.on hb4)
    clear hb4 X4 X3
    go_wp2_with fail
    refine (nodes_is n true HNB.out _).mono ?_
    rintro e w' ⟨rfl, rfl⟩
    go_wp2_with fail
    go_ret
    exact ⟨rfl, X5.out.below⟩
  · have e1 : decide (1 ≤ n) = true := by simp; omega
    have e2 : decide (n ≤ 7) = true := by simp; omega
    have HNB := Lib.hid (show nodesB n = true by unfold nodesB; rw [e1, e2]; rfl)
    clear HC
    go_wp2_with fail
    have X4 := Lib.hid (X3.out.on ((Below.refl w2.heap.size w2).alloc (Nat.le_refl _) (.cells #[.int .i64 0, .slice none 0 0] 29)))
    generalize w2.alloc (.cells #[.int .i64 0, .slice none 0 0] 29) = w3 at *
    refine (zerosig_zero _).mono ?_
    rintro e w4 ⟨rfl, hb4⟩
    have X5 := Lib.hid (X4.out.on hb4)
    clear hb4 X4 X3
    go_wp2_with fail
    refine (nodes_is n true HNB.out _).mono ?_
    rintro e w' ⟨rfl, rfl⟩
    go_wp2_with fail
    go_ret
    exact ⟨rfl, X5.out.below⟩
set_option maxRecDepth 100000 in
set_option maxHeartbeats 8000000 in
theorem msigns_in (s t : ByteArray) (f : Int) (n : Nat) (h : amongB f (n : Int) = true) (hs : s.size ≤ 60) (ht : t.size ≤ 60) (w : World) (hT : Tabs w) :
    Calls Tryd.prog 4 #[.string s, .string t, .agg #[.int .i64 f, .int .i64 (n : Int)]] w fun e w' => e = .returned (.bool true) ∧ Below w.heap.size w w' := by
  have t1 : ¬ (60 : Int) < (s.size : Int) := by omega
  have t2 : ¬ (60 : Int) < (t.size : Int) := by omega
  obtain ⟨n1, n7, f0, fn⟩ := among_of h
  have HA := Lib.hid h
  have HS := Lib.hid (show s.size ≤ 1000 by omega)
  have HL := Lib.hid (show t.size ≤ 100000 by omega)
  have HT := Lib.hid hT
  have HN := Lib.hid (show n ≤ 7 by omega)
  clear hs ht h hT
  go_enter Tryd.func4, Tryd.ntmps4
  go_wp2_with fail
  have X0 := Lib.hid (box_mk w [.int .i64 f, .int .i64 (n : Int)] 22)
  obtain ⟨g, hg⟩ : ∃ g, w.heap.size = g := ⟨_, rfl⟩
  rw [hg] at X0
  have HG := Lib.hid hg
  rw [hg]
  clear hg
  generalize w.alloc (.cells #[.int .i64 f, .int .i64 (n : Int)] 22) = w0 at *
  refine (awake3_any w0).mono ?_
  rintro e w1 ⟨rfl, hb1⟩
  have X1 := Lib.hid (X0.out.on hb1)
  clear X0 hb1
  have c0 := X1.out.cell 0 _ rfl
  have c1 := X1.out.cell 1 _ rfl
  go_wp2_with fail
  go_quiet (fail)
  have X2 : ∀ m, Hid (BoxAt w g [.int .i64 f, .int .i64 (n : Int)] (w1.drewN m)) := fun m => Lib.hid (X1.out.on (below_drewN (Below.refl _ _) m))
  clear X1 c0 c1
  have m1 : ¬ (n : Int) < 1 := by omega
  have m2 : ¬ (7 : Int) < (n : Int) := by omega
  have m3 : ¬ f < 0 := by omega
  have m4 : ¬ (n : Int) ≤ f := by omega
  clear n1 n7 f0 fn
  go_wp2_with fail
  refine (sign_ok s f n t HA.out HS.out HL.out _ (HT.out.below (X2 _).out.below (Nat.le_refl _))).mono ?_
  rintro e w2 ⟨b, hbb, rfl, hTB, hb2⟩
  have X3 := Lib.hid ((X2 _).out.on hb2)
  have TB := Lib.hid hTB
  clear hb2 X2 hbb hTB
  go_wp2_with fail
  obtain ⟨g2, hg2⟩ : ∃ g2, w2.heap.size = g2 := ⟨_, rfl⟩
  have X4 := Lib.hid (box_mk w2 [.int .i64 f, .slice (some ⟨b, 0, none⟩) n n] 29)
  have TB4 := Lib.hid (TB.out.below ((Below.refl w2.heap.size w2).alloc (Nat.le_refl _) (.cells #[.int .i64 f, .slice (some ⟨b, 0, none⟩) n n] 29)) TB.out.lt)
  have X4' := X4.out
  rw [hg2] at X4' ⊢
  clear X4
  have X4 := Lib.hid X4'
  have XW := Lib.hid (X3.out.below.trans (X4'.below.mono X3.out.below.size))
  clear X4' hg2
  generalize w2.alloc (.cells #[.int .i64 f, .slice (some ⟨b, 0, none⟩) n n] 29) = w3 at *
  have C0 := Lib.hid (X4.out.cell 0 _ rfl)
  have C1 := Lib.hid (X4.out.cell 1 _ rfl)
  have HST := Lib.hid (strs_tags TB4.out)
  have HT3 := Lib.hid (HT.out.below XW.out (Nat.le_refl _))
  clear X3 X4 TB HT
  obtain ⟨B3, hB3⟩ : ∃ B3, w3.heap.size = B3 := ⟨_, rfl⟩
  have HB3 := Lib.hid hB3
  clear hB3
  go_loopw [11] (fun v wr => ∃ i : Nat, i ≤ n ∧ v = .int .i64 (i : Int) ∧ (Below B3 w3 wr ∧ B3 ≤ wr.heap.size)) (fun v _ => n - (intOf v).toNat)
  case atStart => exact ⟨0, Nat.zero_le _, rfl, Below.refl _ _, by rw [HB3.out]; exact Nat.le_refl _⟩
  case round =>
    obtain ⟨i, hi, rfl, hK⟩ := hrel
    have HK := Lib.hid hK
    clear hK
    by_cases hlt : i < n
    · have hlt' : (i : Int) < (n : Int) := by omega
      have i0 : (0 : Int) ≤ (i : Int) := by omega
      have ib : (i : Int) ≤ 7 := by have := HN.out; omega
      have HLT := Lib.hid hlt
      have HHT := Lib.hid (holds_tags s t f n i HA.out hlt)
      clear hi hlt
      go_wp2_with fail
      obtain ⟨G, hG⟩ : ∃ G, tagB s f (i : Int) t = G := ⟨_, rfl⟩
      have HGG := Lib.hid hG
      have k0 : Below w3.heap.size w3 wr := by rw [HB3.out]; exact HK.out.1
      have c2 : wr.cell? ⟨b, i, none⟩ = some (.string G) := by
        rw [k0.cell (p := ⟨b, i, none⟩) TB4.out.lt, TB4.out.blk.get i HLT.out, ← hG]
        unfold tagsF; rw [if_pos HLT.out]
      have hst : wr.drew.cell? ⟨g2, 0, none⟩ = some (.int .i64 f) ∧ wr.drew.cell? ⟨g2, 1, none⟩ = some (.slice (some ⟨b, 0, none⟩) n n) ∧ wr.drew.cell? ⟨b, i, none⟩ = some (.string G) ∧ Below B3 w3 wr.drew ∧ B3 ≤ wr.drew.heap.size :=
        ⟨(k0.cell (p := ⟨g2, 0, none⟩) (World.block_lt_of_cell? w3 _ C0.out)).trans C0.out, (k0.cell (p := ⟨g2, 1, none⟩) (World.block_lt_of_cell? w3 _ C1.out)).trans C1.out, c2, HK.out.1.drew, HK.out.2⟩
      have eG : (G.toList != G.toList) = false := by simp
      clear k0 c2 hG
      go_region_held3 (fun w' => w'.cell? ⟨g2, 0, none⟩ = some (.int .i64 f) ∧ w'.cell? ⟨g2, 1, none⟩ = some (.slice (some ⟨b, 0, none⟩) n n) ∧ w'.cell? ⟨b, i, none⟩ = some (.string G) ∧ Below B3 w3 w' ∧ B3 ≤ w'.heap.size)
        (first | exact hst | assumption | exact hk2)
        (first
          | (go_at_call 11; refine (rtag_is s f (i : Int) t G HGG.out HS.out HL.out _).mono ?_; rintro e w4 ⟨rfl, hb4⟩; have hk2 := keepG (w := w3) (g := g2) (B := B3) (b := b) (i := i) (f := f) (tv := .slice (some ⟨b, 0, none⟩) n n) (u := G) (by assumption) hb4)
          | (go_at_call 15; refine (holds_is s (i : Int) (n : Int) t f _ _ true HHT.out _ (strs_now HST.out HB3.out (by assumption : _ ∧ _ ∧ _ ∧ Below B3 w3 _ ∧ _).2.2.2.1) (by rw [tagsL_len]; have := HN.out; omega) HS.out HL.out (tabs_now HT3.out HB3.out (by assumption : _ ∧ _ ∧ _ ∧ Below B3 w3 _ ∧ _).2.2.2.1)).mono ?_; rintro e w5 ⟨rfl, hb5⟩; have hk3 := keepG (w := w3) (g := g2) (B := B3) (b := b) (i := i) (f := f) (tv := .slice (some ⟨b, 0, none⟩) n n) (u := G) (by assumption) hb5))
      go_wp2_with fail
      go_roundw
      case rel => exact ⟨i + 1, by have := HLT.out; omega, by go_num, hk3.2.2.2⟩
      case measure => have := HLT.out; simp [intOf]; omega
    · obtain rfl : i = n := by omega
      have hlt' : ¬ (i : Int) < (i : Int) := by omega
      have HN1 := Lib.hid (show (amongB (-1) (i : Int) && (amongB f (i : Int) && shapedB (tagsL s f t i) (i : Int))) = false by simp [amongB])
      have HN2 := Lib.hid (show (amongB (i : Int) (i : Int) && (amongB f (i : Int) && shapedB (tagsL s f t i) (i : Int))) = false by simp [amongB])
      have HLN := Lib.hid (show (tagsL s f t i).length ≤ 9223372036854775807 by rw [tagsL_len]; have := HN.out; omega)
      have k0 : Below w3.heap.size w3 wr := by rw [HB3.out]; exact HK.out.1
      have K0 := Lib.hid k0
      have d0 := (k0.cell (p := ⟨g2, 0, none⟩) (World.block_lt_of_cell? w3 _ C0.out)).trans C0.out
      have d1 := (k0.cell (p := ⟨g2, 1, none⟩) (World.block_lt_of_cell? w3 _ C1.out)).trans C1.out
      clear hi hlt k0
      go_wp2_with fail
      refine (holds_no s (-1) (i : Int) t f _ _ _ (HST.out.later K0.out) HLN.out HN1.out).mono ?_
      rintro e w5 ⟨rfl, hb5⟩
      have K5 := Lib.hid (K0.out.trans (hb5.mono K0.out.size))
      clear hb5 d0 d1 K0
      have d0 := (K5.out.cell (p := ⟨g2, 0, none⟩) (World.block_lt_of_cell? w3 _ C0.out)).trans C0.out
      have d1 := (K5.out.cell (p := ⟨g2, 1, none⟩) (World.block_lt_of_cell? w3 _ C1.out)).trans C1.out
      go_wp2_with fail
      refine (holds_no s (i : Int) (i : Int) t f _ _ _ (HST.out.later K5.out) HLN.out HN2.out).mono ?_
      rintro e w6 ⟨rfl, hb6⟩
      have K6 := Lib.hid (K5.out.trans (hb6.mono K5.out.size))
      clear hb6 d0 d1 K5
      go_wp2_with fail
      go_ret
      exact ⟨rfl, XW.out.trans (K6.out.mono XW.out.size)⟩
set_option maxRecDepth 100000 in
set_option maxHeartbeats 1000000 in
theorem msigns_walk (s t : ByteArray) (f n : Int) (w : World) (hT : Tabs w) :
    Calls Tryd.prog 4 #[.string s, .string t, .agg #[.int .i64 f, .int .i64 n]] w fun e w' => e = .returned (.bool true) ∧ Below w.heap.size w w' := by
  by_cases hs : s.size ≤ 60
  · by_cases ht : t.size ≤ 60
    · rcases hA : amongB f n with _ | _
      · exact msigns_no s t f n hA hs ht w
      · obtain ⟨k, rfl⟩ := Int.eq_ofNat_of_zero_le (show 0 ≤ n by have := among_of hA; omega)
        exact msigns_in s t f k hA hs ht w hT
    · have t1 : ¬ (60 : Int) < (s.size : Int) := by omega
      have t2 : (60 : Int) < (t.size : Int) := by omega
      clear hs ht hT
      go_enter Tryd.func4, Tryd.ntmps4
      go_wp2_with fail
      have B0 := Lib.hid ((Below.refl w.heap.size w).alloc (Nat.le_refl _) (.cells #[.int .i64 f, .int .i64 n] 22))
      generalize w.alloc (.cells #[.int .i64 f, .int .i64 n] 22) = w0 at *
      refine (awake3_any w0).mono ?_
      rintro e w1 ⟨rfl, hb1⟩
      have B1 := Lib.hid (B0.out.trans (hb1.mono B0.out.size))
      clear hb1 B0
      go_wp2_with fail
      refine (awake3_any w1).mono ?_
      rintro e w2 ⟨rfl, hb2⟩
      have B2 := Lib.hid (B1.out.trans (hb2.mono B1.out.size))
      clear hb2 B1
      go_wp2_with fail
      go_ret
      exact ⟨rfl, B2.out⟩
  · have t1 : (60 : Int) < (s.size : Int) := by omega
    clear hs hT
    go_enter Tryd.func4, Tryd.ntmps4
    go_wp2_with fail
    have B0 := Lib.hid ((Below.refl w.heap.size w).alloc (Nat.le_refl _) (.cells #[.int .i64 f, .int .i64 n] 22))
    generalize w.alloc (.cells #[.int .i64 f, .int .i64 n] 22) = w0 at *
    refine (awake3_any w0).mono ?_
    rintro e w1 ⟨rfl, hb1⟩
    have B1 := Lib.hid (B0.out.trans (hb1.mono B0.out.size))
    clear hb1 B0
    go_wp2_with fail
    refine (awake3_any w1).mono ?_
    rintro e w2 ⟨rfl, hb2⟩
    have B2 := Lib.hid (B1.out.trans (hb2.mono B1.out.size))
    clear hb2 B1
    go_wp2_with fail
    go_ret
    exact ⟨rfl, B2.out⟩
end Go.Proofs.YtfbjjlejmcpphaaDoor
