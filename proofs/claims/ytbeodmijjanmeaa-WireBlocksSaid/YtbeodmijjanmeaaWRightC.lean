/-
  The walk of the reference's RightCert.
-/
import Derived.Test.YtbeodmijjanmeaaWRight
import Derived.Test.YtbeodmijjanmeaaWOne
open Go Go.RowKit
namespace WW
open BB
/-- the first i signatures are right, and rise -/
def okTo (l : List (Int × List ByteArray)) : Nat → Bool
  | 0 => true
  | i + 1 => okTo l i && (rightSig (l.getD i (0, [])).1 (l.getD i (0, [])).2 && (decide (i = 0) || decide ((l.getD (i - 1) (0, [])).1 < (l.getD i (0, [])).1)))
theorem okTo_mono (l : List (Int × List ByteArray)) (i j : Nat) (h : i ≤ j) (hf : okTo l i = false) : okTo l j = false := by
  induction j with
  | zero => obtain rfl : i = 0 := by omega
            exact hf
  | succ j ih =>
    by_cases e : i = j + 1
    · subst e; exact hf
    · show (okTo l j && _) = false
      rw [ih (by omega), Bool.false_and]
/-- a right certificate -/
def rightCert (v : Int) (k : ByteArray) (l : List (Int × List ByteArray)) : Bool := (decide (0 ≤ v) && decide (v ≤ 1000000) && decide (k.size = 32) && decide (l.length ≤ 7)) && okTo l l.length
/-- the certificate's first fields are wrong, by the first thing that is -/
def BadC (v : Int) (k : ByteArray) (n : Nat) : Prop := v < 0 ∨ 0 ≤ v ∧ ((1000000 : Int) < v ∨ v ≤ 1000000 ∧ (((k.size : Int) != 32) = true ∨ ((k.size : Int) != 32) = false ∧ (7 : Int) < (n : Int)))
theorem cells3 {w w1 : World} {p0 p1 p2 : Nat × Nat} {v0 v1 v2 : Value} (h : w.cell? ⟨p0.1, p0.2, none⟩ = some v0 ∧ w.cell? ⟨p1.1, p1.2, none⟩ = some v1 ∧ w.cell? ⟨p2.1, p2.2, none⟩ = some v2) (hb : Below w.heap.size w w1) :
    w1.cell? ⟨p0.1, p0.2, none⟩ = some v0 ∧ w1.cell? ⟨p1.1, p1.2, none⟩ = some v1 ∧ w1.cell? ⟨p2.1, p2.2, none⟩ = some v2 :=
  ⟨(hb.cell (p := ⟨p0.1, p0.2, none⟩) (World.block_lt_of_cell? w _ h.1)).trans h.1, (hb.cell (p := ⟨p1.1, p1.2, none⟩) (World.block_lt_of_cell? w _ h.2.1)).trans h.2.1, (hb.cell (p := ⟨p2.1, p2.2, none⟩) (World.block_lt_of_cell? w _ h.2.2)).trans h.2.2⟩
end WW
namespace Go.Proofs.Ytbeodmijjanmeaa
open WW BB
set_option maxRecDepth 100000 in
set_option maxHeartbeats 4000000 in
theorem rightcert_bad (v : Int) (k : ByteArray) (a0 : Option Addr) (n cap : Nat) (w : World) (h : BadC v k n) :
    Calls Try.prog 26 #[.agg #[.int .i64 v, .string k, .slice a0 n cap]] w fun e w' => e = .returned (.bool false) ∧ Below w.heap.size w w' := by
  rcases h with h | ⟨h0, h | ⟨h1, h | ⟨h2, h⟩⟩⟩
  all_goals
    go_enter Try.func26, Try.ntmps26
    go_wp2_with fail
    go_ret
    exact ⟨rfl, (Below.refl _ _).alloc (Nat.le_refl _) _⟩
set_option maxRecDepth 100000 in
set_option maxHeartbeats 8000000 in
theorem rightcert_ok (v : Int) (k : ByteArray) (sv : Value) (l : List (Int × List ByteArray)) (w : World) (hv : SigsAt w sv l) (hn : MemS l) (h0 : 0 ≤ v) (h1 : v ≤ 1000000) (hk : k.size = 32) (h7 : l.length ≤ 7) :
    Calls Try.prog 26 #[.agg #[.int .i64 v, .string k, sv]] w fun e w' => e = .returned (.bool (okTo l l.length)) ∧ Below w.heap.size w w' := by
  obtain ⟨X, hX⟩ : ∃ X, okTo l l.length = X := ⟨_, rfl⟩
  rw [hX]
  have HX := Lib.hid hX
  have HV := Lib.hid hv
  have HN := Lib.hid hn
  have H7 := Lib.hid h7
  obtain ⟨a0, cap, rfl, hx⟩ := hv
  have t2 : ((k.size : Int) != 32) = false := by rw [hk]; rfl
  have t3 : (l.length : Int) ≤ 7 := by omega
  clear hn hx hX hk h7
  go_enter Try.func26, Try.ntmps26
  go_wp2_with fail
  have B0 := box_mk w [.int .i64 v, .string k, .slice a0 l.length cap] 28
  rw [show [Value.int .i64 v, .string k, .slice a0 l.length cap].toArray = #[.int .i64 v, .string k, .slice a0 l.length cap] from rfl] at B0
  obtain ⟨g, hg⟩ : ∃ g, w.heap.size = g := ⟨_, rfl⟩
  rw [hg] at B0 ⊢
  clear hg
  generalize w.alloc (.cells #[.int .i64 v, .string k, .slice a0 l.length cap] 28) = w0 at *
  go_loopw [3] (fun x wr => ∃ i : Nat, i ≤ l.length ∧ x = .int .i64 (i : Int) ∧ okTo l i = true ∧ BoxAt w g [.int .i64 v, .string k, .slice a0 l.length cap] wr) (fun x _ => l.length - (intOf x).toNat)
  case atStart => exact ⟨0, Nat.zero_le _, rfl, rfl, B0⟩
  case round =>
    clear B0
    clear w0
    obtain ⟨i, hi, rfl, hall, hbox⟩ := hrel
    have HALL := Lib.hid hall
    have HBX := Lib.hid hbox
    have i0 : (0 : Int) ≤ (i : Int) := by omega
    have ib : (i : Int) ≤ 7 := by omega
    have c2 := hbox.cell 2 _ rfl
    clear hall hbox
    by_cases hlt : i < l.length
    · have hlt' : (i : Int) < (l.length : Int) := by omega
      obtain ⟨a1, cap1, he, hv | ⟨gb, off, rfl, hbw, hcell⟩⟩ := HV.out
      · rw [hv] at hlt; simp at hlt
      injection he with e1 _ e3
      subst e1 e3
      obtain ⟨tv, hc0, hc1, hts⟩ := hcell i hlt
      have hcl0 := (HBX.out.below.cell (p := ⟨gb, off + i * 2, none⟩) hbw).trans hc0
      have hcl1 := (HBX.out.below.cell (p := ⟨gb, off + i * 2 + 1, none⟩) hbw).trans hc1
      have HTS := Lib.hid (hts.later HBX.out.below)
      have HMi := Lib.hid (HN.out.2 i hlt)
      have hst : okTo l (i + 1) = (okTo l i && (rightSig (l.getD i (0, [])).1 (l.getD i (0, [])).2 && (decide (i = 0) || decide ((l.getD (i - 1) (0, [])).1 < (l.getD i (0, [])).1)))) := rfl
      by_cases hz : i = 0
      · subst hz
        obtain ⟨f, hf⟩ : ∃ f, (l.getD 0 (0, [])).1 = f := ⟨_, rfl⟩
        obtain ⟨ts, ht⟩ : ∃ ts, (l.getD 0 (0, [])).2 = ts := ⟨_, rfl⟩
        rw [hf] at hcl0 hst
        rw [ht] at HTS HMi hst
        have HST := Lib.hid hst
        clear hst
        have HLT := Lib.hid hlt
        obtain ⟨ta, tcap, htv, _⟩ := HTS.out
        subst htv
        rw [show off + 0 * 2 = off by omega] at hcl0 hcl1 hc0 hc1
        rw [hf] at hc0
        rw [ht] at hts
        have HBW := Lib.hid hbw
        have HC0 := Lib.hid hc0
        have HC1 := Lib.hid hc1
        have HTW := Lib.hid hts
        clear hf ht hlt hi hcell hbw hc0 hc1 hts
        have TD := Lib.hid (HTS.out.later (Below.refl wr.heap.size wr).drew)
        have hfacts : ∀ w', BoxAt w g [.int .i64 v, .string k, .slice (some ⟨gb, off, none⟩) l.length cap] w' → w'.cell? ⟨g, 2, none⟩ = some (.slice (some ⟨gb, off, none⟩) l.length cap) ∧ w'.cell? ⟨gb, off, none⟩ = some (.int .i64 f) ∧ w'.cell? ⟨gb, off + 1, none⟩ = some (.slice ta ts.length tcap) ∧ StrsAt w' (.slice ta ts.length tcap) ts := fun w' hS => ⟨hS.cell 2 _ rfl, (hS.below.cell (p := ⟨gb, off, none⟩) HBW.out).trans HC0.out, (hS.below.cell (p := ⟨gb, off + 1, none⟩) HBW.out).trans HC1.out, HTW.out.later hS.below⟩
        have HF := Lib.hid hfacts
        have HBD := Lib.hid (HBX.out.on (Below.refl wr.heap.size wr).drew)
        clear hfacts hcl0 hcl1
        obtain ⟨R, hR⟩ : ∃ R, rightSig f ts = R := ⟨_, rfl⟩
        have HR := Lib.hid hR
        clear hR
        go_wp2_with fail
        refine one_call (a1 := ?a1) [0, 1, 2, 3, 4] [6, 7, 8, 9, 10, 11, 12, 13, 14, 15, 16, 17, 18, 19, 20, 21, 22, 23, 24, 25, 26] 5 _ 36 47 #[.agg #[.int .i64 f, .slice ta ts.length tcap]] (.bool R) (fun w' => BoxAt w g [.int .i64 v, .string k, .slice (some ⟨gb, off, none⟩) l.length cap] w') (by kernel_rfl) (by kernel_rfl) (fun _ _ d _ _ h => by cases d <;> exact h) rfl rfl rfl HBD.out ?hread ?henter ?hcall ?htail
        case hread =>
          simp only [pick, List.filterMap, List.getElem?_toArray, List.getElem?_cons_zero, List.getElem?_cons_succ]
          iterate 5 (refine heldg_run ?_ rfl ?_ ?_; rotate_left; (focus (intro w' hS; obtain ⟨s0, s1, s2, _⟩ := HF.out w' hS; go_simp; exact rfl)); simp only [Act.put, List.setIfInBounds_toArray, List.set_cons_zero, List.set_cons_succ])
          exact rfl
        case henter => intro w'; go_simp
        case hcall =>
          intro w' hS
          refine (rightsig_any f _ ts _ (HF.out w' hS).2.2.2 HMi.out).mono ?_
          rintro e w4 ⟨rfl, hb4⟩
          exact ⟨by rw [HR.out], hS.on hb4⟩
        case htail =>
          simp only [pick, List.filterMap, List.getElem?_toArray, List.getElem?_cons_zero, List.getElem?_cons_succ, Act.put, List.setIfInBounds_toArray, List.set_cons_zero, List.set_cons_succ]
          cases R
          · iterate 21 (first | (refine heldg_skip rfl ?_; simp only [Act.put, List.setIfInBounds_toArray, List.set_cons_zero, List.set_cons_succ]) | (refine heldg_run ?_ rfl ?_ ?_; rotate_left; (focus (intro w' hS; obtain ⟨s0, s1, s2, _⟩ := HF.out w' hS; go_simp; exact rfl)); simp only [Act.put, List.setIfInBounds_toArray, List.set_cons_zero, List.set_cons_succ]))
            refine heldg_nil ?_
            intro w' hS
            have HBZ := Lib.hid hS
            clear hS
            go_wp2_with fail
            go_ret
            refine ⟨?_, HBZ.out.below⟩
            rw [← HX.out, okTo_mono l 1 l.length (by have := HLT.out; omega) (by rw [show 1 = 0 + 1 from rfl, HST.out, HR.out]; simp)]
            rfl
          · iterate 21 (first | (refine heldg_skip rfl ?_; simp only [Act.put, List.setIfInBounds_toArray, List.set_cons_zero, List.set_cons_succ]) | (refine heldg_run ?_ rfl ?_ ?_; rotate_left; (focus (intro w' hS; obtain ⟨s0, s1, s2, _⟩ := HF.out w' hS; go_simp; exact rfl)); simp only [Act.put, List.setIfInBounds_toArray, List.set_cons_zero, List.set_cons_succ]))
            refine heldg_nil ?_
            intro w' hS
            have HBZ := Lib.hid hS
            clear hS
            go_wp2_with fail
            go_roundw
            case rel => exact ⟨1, by have := HLT.out; omega, by go_num, by rw [show 1 = 0 + 1 from rfl, HST.out, HALL.out, HR.out]; simp, HBZ.out⟩
            case measure => have := HLT.out; simp [intOf]; omega
      · obtain ⟨m, rfl⟩ : ∃ m, i = m + 1 := ⟨i - 1, by omega⟩
        obtain ⟨pv, pc0, -, -⟩ := hcell m (by omega)
        rw [show m + 1 - 1 = m by omega] at hst
        obtain ⟨f, hf⟩ : ∃ f, (l.getD (m + 1) (0, [])).1 = f := ⟨_, rfl⟩
        obtain ⟨fp, hfp⟩ : ∃ f, (l.getD m (0, [])).1 = f := ⟨_, rfl⟩
        obtain ⟨ts, ht⟩ : ∃ ts, (l.getD (m + 1) (0, [])).2 = ts := ⟨_, rfl⟩
        rw [hf] at hc0 hst
        rw [hfp] at pc0 hst
        rw [ht] at hts HTS HMi hst
        have HST := Lib.hid hst
        have HLT := Lib.hid hlt
        obtain ⟨ta, tcap, htv, _⟩ := HTS.out
        subst htv
        have HBW := Lib.hid hbw
        have HC0 := Lib.hid hc0
        have HC1 := Lib.hid hc1
        have HP0 := Lib.hid pc0
        have HTW := Lib.hid hts
        have m1 : (m : Int) + 1 ≤ 7 := by omega
        have m0 : (0 : Int) ≤ (m : Int) := by omega
        have mlt : (m : Int) + 1 < (l.length : Int) := by omega
        have mlt' : (m : Int) < (l.length : Int) := by omega
        have mnz : (0 : Int) < (m : Int) + 1 := by omega
        have MW := Lib.hid (show IntKind.i64.wrap (m : Int) = (m : Int) by rw [IntKind.wrap_i64]; omega)
        have mnn : (0 : Int) ≤ (m : Int) + 1 := by omega
        clear hf hfp ht hlt hi hcell hbw hc0 hc1 hts hst pc0 hz hcl0 hcl1 i0 ib hlt'
        have TD := Lib.hid (HTS.out.later (Below.refl wr.heap.size wr).drew)
        have hfacts : ∀ w', BoxAt w g [.int .i64 v, .string k, .slice (some ⟨gb, off, none⟩) l.length cap] w' → w'.cell? ⟨g, 2, none⟩ = some (.slice (some ⟨gb, off, none⟩) l.length cap) ∧ w'.cell? ⟨gb, off + (m + 1) * 2, none⟩ = some (.int .i64 f) ∧ w'.cell? ⟨gb, off + (m + 1) * 2 + 1, none⟩ = some (.slice ta ts.length tcap) ∧ w'.cell? ⟨gb, off + m * 2, none⟩ = some (.int .i64 fp) ∧ StrsAt w' (.slice ta ts.length tcap) ts := fun w' hS => ⟨hS.cell 2 _ rfl, (hS.below.cell (p := ⟨gb, off + (m + 1) * 2, none⟩) HBW.out).trans HC0.out, (hS.below.cell (p := ⟨gb, off + (m + 1) * 2 + 1, none⟩) HBW.out).trans HC1.out, (hS.below.cell (p := ⟨gb, off + m * 2, none⟩) HBW.out).trans HP0.out, HTW.out.later hS.below⟩
        have HF := Lib.hid hfacts
        have HBD := Lib.hid (HBX.out.on (Below.refl wr.heap.size wr).drew)
        clear hfacts
        obtain ⟨R, hR⟩ : ∃ R, rightSig f ts = R := ⟨_, rfl⟩
        have HR := Lib.hid hR
        clear hR
        go_wp2_with fail
        refine one_call (a1 := ?a2) [0, 1, 2, 3, 4] [6, 7, 8, 9, 10, 11, 12, 13, 14, 15, 16, 17, 18, 19, 20, 21, 22, 23, 24, 25, 26] 5 _ 36 47 #[.agg #[.int .i64 f, .slice ta ts.length tcap]] (.bool R) (fun w' => BoxAt w g [.int .i64 v, .string k, .slice (some ⟨gb, off, none⟩) l.length cap] w') (by kernel_rfl) (by kernel_rfl) (fun _ _ d _ _ h => by cases d <;> exact h) rfl rfl rfl HBD.out ?hread ?henter ?hcall ?htail
        case hread =>
          simp only [pick, List.filterMap, List.getElem?_toArray, List.getElem?_cons_zero, List.getElem?_cons_succ]
          iterate 5 (refine heldg_run ?_ rfl ?_ ?_; rotate_left; (focus (intro w' hS; obtain ⟨s0, s1, s2, s3, _⟩ := HF.out w' hS; have mw := MW.out; go_simp; exact rfl)); simp only [Act.put, List.setIfInBounds_toArray, List.set_cons_zero, List.set_cons_succ])
          exact rfl
        case henter => intro w'; go_simp
        case hcall =>
          intro w' hS
          refine (rightsig_any f _ ts _ (HF.out w' hS).2.2.2.2 HMi.out).mono ?_
          rintro e w4 ⟨rfl, hb4⟩
          exact ⟨by rw [HR.out], hS.on hb4⟩
        case htail =>
          simp only [pick, List.filterMap, List.getElem?_toArray, List.getElem?_cons_zero, List.getElem?_cons_succ, Act.put, List.setIfInBounds_toArray, List.set_cons_zero, List.set_cons_succ]
          cases R
          · iterate 21 (first | (refine heldg_skip rfl ?_; simp only [Act.put, List.setIfInBounds_toArray, List.set_cons_zero, List.set_cons_succ]) | (refine heldg_run ?_ rfl ?_ ?_; rotate_left; (focus (intro w' hS; obtain ⟨s0, s1, s2, s3, _⟩ := HF.out w' hS; have mw := MW.out; go_simp; exact rfl)); simp only [Act.put, List.setIfInBounds_toArray, List.set_cons_zero, List.set_cons_succ]))
            refine heldg_nil ?_
            intro w' hS
            have HBZ := Lib.hid hS
            clear hS
            go_wp2_with fail
            go_ret
            refine ⟨?_, HBZ.out.below⟩
            rw [← HX.out, okTo_mono l (m + 1 + 1) l.length (by have := HLT.out; omega) (by rw [HST.out, HR.out]; simp)]
            rfl
          · by_cases hff : fp < f
            · have hd : decide (f ≤ fp) = false := by simp; omega
              iterate 21 (first | (refine heldg_skip rfl ?_; simp only [Act.put, List.setIfInBounds_toArray, List.set_cons_zero, List.set_cons_succ]) | (refine heldg_run ?_ rfl ?_ ?_; rotate_left; (focus (intro w' hS; obtain ⟨s0, s1, s2, s3, _⟩ := HF.out w' hS; have mw := MW.out; go_simp; exact rfl)); simp only [Act.put, List.setIfInBounds_toArray, List.set_cons_zero, List.set_cons_succ]))
              refine heldg_nil ?_
              intro w' hS
              have HBZ := Lib.hid hS
              have HFF := Lib.hid hff
              clear hS hff
              go_wp2_with fail
              go_roundw
              case rel => exact ⟨m + 1 + 1, by have := HLT.out; omega, by go_num, by rw [HST.out, HALL.out, HR.out]; simp [HFF.out], HBZ.out⟩
              case measure => have := HLT.out; simp [intOf]; omega
            · have hd : decide (f ≤ fp) = true := by simp; omega
              iterate 21 (first | (refine heldg_skip rfl ?_; simp only [Act.put, List.setIfInBounds_toArray, List.set_cons_zero, List.set_cons_succ]) | (refine heldg_run ?_ rfl ?_ ?_; rotate_left; (focus (intro w' hS; obtain ⟨s0, s1, s2, s3, _⟩ := HF.out w' hS; have mw := MW.out; go_simp; exact rfl)); simp only [Act.put, List.setIfInBounds_toArray, List.set_cons_zero, List.set_cons_succ]))
              refine heldg_nil ?_
              intro w' hS
              have HBZ := Lib.hid hS
              have HFF := Lib.hid hff
              clear hS hff
              go_wp2_with fail
              go_ret
              refine ⟨?_, HBZ.out.below⟩
              rw [← HX.out, okTo_mono l (m + 1 + 1) l.length (by have := HLT.out; omega) (by rw [HST.out, HR.out]; simp [HFF.out])]
              rfl
    · obtain rfl : i = l.length := by omega
      have hlt' : ¬ (l.length : Int) < (l.length : Int) := by omega
      clear hlt hi
      go_wp2_with fail
      go_ret
      exact ⟨by rw [← HX.out, HALL.out]; rfl, HBX.out.below⟩
theorem rightcert_any (v : Int) (k : ByteArray) (sv : Value) (l : List (Int × List ByteArray)) (w : World) (hv : SigsAt w sv l) (hn : MemS l) :
    Calls Try.prog 26 #[.agg #[.int .i64 v, .string k, sv]] w fun e w' => e = .returned (.bool (rightCert v k l)) ∧ Below w.heap.size w w' := by
  by_cases hb : BadC v k l.length
  · obtain ⟨a0, cap, rfl, _⟩ := hv
    refine (rightcert_bad v k a0 l.length cap w hb).mono ?_
    rintro e w' ⟨rfl, h⟩
    refine ⟨?_, h⟩
    rw [show rightCert v k l = false from ?_]
    unfold rightCert
    rcases hb with h | ⟨h0, h | ⟨h1, h | ⟨h2, h⟩⟩⟩
    · rw [show decide (0 ≤ v) = false by simp; omega]; simp
    · rw [show decide (v ≤ 1000000) = false by simp; omega]; simp
    · rw [show decide (k.size = 32) = false by rw [bne_iff_ne] at h; simp; omega]; simp
    · rw [show decide (l.length ≤ 7) = false by simp; omega]; simp
  · have h0 : 0 ≤ v := by
      apply Classical.byContradiction; intro h; exact hb (Or.inl (by omega))
    have h1 : v ≤ 1000000 := by
      apply Classical.byContradiction; intro h; exact hb (Or.inr ⟨h0, Or.inl (by omega)⟩)
    have hk : k.size = 32 := by
      apply Classical.byContradiction; intro h; exact hb (Or.inr ⟨h0, Or.inr ⟨h1, Or.inl (by rw [bne_iff_ne]; omega)⟩⟩)
    have h7 : l.length ≤ 7 := by
      apply Classical.byContradiction; intro h; exact hb (Or.inr ⟨h0, Or.inr ⟨h1, Or.inr ⟨by rw [hk]; rfl, by omega⟩⟩⟩)
    refine (rightcert_ok v k sv l w hv hn h0 h1 hk h7).mono ?_
    rintro e w' ⟨rfl, h⟩
    refine ⟨?_, h⟩
    unfold rightCert
    simp [h0, h1, hk, h7]
end Go.Proofs.Ytbeodmijjanmeaa
