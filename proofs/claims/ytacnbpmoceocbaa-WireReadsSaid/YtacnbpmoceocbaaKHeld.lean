/-
  A region that draws its order, in which reads stand beside a call that makes memory and the making of a new variable, into which the call's result is stored.
-/
import Derived.Test.YtacnbpmoceocbaaKWOne
import Derived.Test.YtacnbpmoceocbaaKWReqs
import Derived.Test.YtacnbpmoceocbaaKWNum
import Derived.OrdersHeld
section
open Go Go.RowKit
namespace WW
open BB
/-- the first i signatures are right, and rise -/
def okTo (l : List (Int × List ByteArray)) : Nat → Bool
  | 0 => true
  | i + 1 => okTo l i && (rightSig (l.getD i (0, [])).1 (l.getD i (0, [])).2 && (decide (i = 0) || decide ((l.getD (i - 1) (0, [])).1 < (l.getD i (0, [])).1)))
theorem okTo_mono (l : List (Int × List ByteArray)) (i j : Nat) (h : i ≤ j) (hf : okTo l i = false) : okTo l j = false := by
  induction j with
  | zero => obtain rfl : i = 0 := by omega
            exact hf
  | succ j ih =>
    by_cases e : i = j + 1
    · subst e; exact hf
    · show (okTo l j && _) = false
      rw [ih (by omega), Bool.false_and]
/-- a right certificate -/
def rightCert (v : Int) (k : ByteArray) (l : List (Int × List ByteArray)) : Bool := (decide (0 ≤ v) && decide (v ≤ 1000000) && decide (k.size = 32) && decide (l.length ≤ 7)) && okTo l l.length
/-- the certificate's first fields are wrong, by the first thing that is -/
def BadC (v : Int) (k : ByteArray) (n : Nat) : Prop := v < 0 ∨ 0 ≤ v ∧ ((1000000 : Int) < v ∨ v ≤ 1000000 ∧ (((k.size : Int) != 32) = true ∨ ((k.size : Int) != 32) = false ∧ (7 : Int) < (n : Int)))
theorem cells3 {w w1 : World} {p0 p1 p2 : Nat × Nat} {v0 v1 v2 : Value} (h : w.cell? ⟨p0.1, p0.2, none⟩ = some v0 ∧ w.cell? ⟨p1.1, p1.2, none⟩ = some v1 ∧ w.cell? ⟨p2.1, p2.2, none⟩ = some v2) (hb : Below w.heap.size w w1) :
    w1.cell? ⟨p0.1, p0.2, none⟩ = some v0 ∧ w1.cell? ⟨p1.1, p1.2, none⟩ = some v1 ∧ w1.cell? ⟨p2.1, p2.2, none⟩ = some v2 :=
  ⟨(hb.cell (p := ⟨p0.1, p0.2, none⟩) (World.block_lt_of_cell? w _ h.1)).trans h.1, (hb.cell (p := ⟨p1.1, p1.2, none⟩) (World.block_lt_of_cell? w _ h.2.1)).trans h.2.1, (hb.cell (p := ⟨p2.1, p2.2, none⟩) (World.block_lt_of_cell? w _ h.2.2)).trans h.2.2⟩
end WW
namespace Go.Proofs.Ytacnbpmoceocbaa
open WW BB
set_option maxRecDepth 100000 in
set_option maxHeartbeats 4000000 in
theorem rightcert_bad (v : Int) (k : ByteArray) (a0 : Option Addr) (n cap : Nat) (w : World) (h : BadC v k n) :
    Calls Try.prog 26 #[.agg #[.int .i64 v, .string k, .slice a0 n cap]] w fun e w' => e = .returned (.bool false) ∧ Below w.heap.size w w' := by
  rcases h with h | ⟨h0, h | ⟨h1, h | ⟨h2, h⟩⟩⟩
  all_goals
    go_enter Try.func26, Try.ntmps26
    go_wp2_with fail
    go_ret
    exact ⟨rfl, (Below.refl _ _).alloc (Nat.le_refl _) _⟩
set_option maxRecDepth 100000 in
set_option maxHeartbeats 8000000 in
theorem rightcert_ok (v : Int) (k : ByteArray) (sv : Value) (l : List (Int × List ByteArray)) (w : World) (hv : SigsAt w sv l) (hn : MemS l) (h0 : 0 ≤ v) (h1 : v ≤ 1000000) (hk : k.size = 32) (h7 : l.length ≤ 7) :
    Calls Try.prog 26 #[.agg #[.int .i64 v, .string k, sv]] w fun e w' => e = .returned (.bool (okTo l l.length)) ∧ Below w.heap.size w w' := by
  obtain ⟨X, hX⟩ : ∃ X, okTo l l.length = X := ⟨_, rfl⟩
  rw [hX]
  have HX := Lib.hid hX
  have HV := Lib.hid hv
  have HN := Lib.hid hn
  have H7 := Lib.hid h7
  obtain ⟨a0, cap, rfl, hx⟩ := hv
  have t2 : ((k.size : Int) != 32) = false := by rw [hk]; rfl
  have t3 : (l.length : Int) ≤ 7 := by omega
  clear hn hx hX hk h7
  go_enter Try.func26, Try.ntmps26
  go_wp2_with fail
  have B0 := box_mk w [.int .i64 v, .string k, .slice a0 l.length cap] 28
  rw [show [Value.int .i64 v, .string k, .slice a0 l.length cap].toArray = #[.int .i64 v, .string k, .slice a0 l.length cap] from rfl] at B0
  obtain ⟨g, hg⟩ : ∃ g, w.heap.size = g := ⟨_, rfl⟩
  rw [hg] at B0 ⊢
  clear hg
  generalize w.alloc (.cells #[.int .i64 v, .string k, .slice a0 l.length cap] 28) = w0 at *
  go_loopw [3] (fun x wr => ∃ i : Nat, i ≤ l.length ∧ x = .int .i64 (i : Int) ∧ okTo l i = true ∧ BoxAt w g [.int .i64 v, .string k, .slice a0 l.length cap] wr) (fun x _ => l.length - (intOf x).toNat)
  case atStart => exact ⟨0, Nat.zero_le _, rfl, rfl, B0⟩
  case round =>
    clear B0
    clear w0
    obtain ⟨i, hi, rfl, hall, hbox⟩ := hrel
    have HALL := Lib.hid hall
    have HBX := Lib.hid hbox
    have i0 : (0 : Int) ≤ (i : Int) := by omega
    have ib : (i : Int) ≤ 7 := by omega
    have c2 := hbox.cell 2 _ rfl
    clear hall hbox
    by_cases hlt : i < l.length
    · have hlt' : (i : Int) < (l.length : Int) := by omega
      obtain ⟨a1, cap1, he, hv | ⟨gb, off, rfl, hbw, hcell⟩⟩ := HV.out
      · rw [hv] at hlt; simp at hlt
      injection he with e1 _ e3
      subst e1 e3
      obtain ⟨tv, hc0, hc1, hts⟩ := hcell i hlt
      have hcl0 := (HBX.out.below.cell (p := ⟨gb, off + i * 2, none⟩) hbw).trans hc0
      have hcl1 := (HBX.out.below.cell (p := ⟨gb, off + i * 2 + 1, none⟩) hbw).trans hc1
      have HTS := Lib.hid (hts.later HBX.out.below)
      have HMi := Lib.hid (HN.out.2 i hlt)
      have hst : okTo l (i + 1) = (okTo l i && (rightSig (l.getD i (0, [])).1 (l.getD i (0, [])).2 && (decide (i = 0) || decide ((l.getD (i - 1) (0, [])).1 < (l.getD i (0, [])).1)))) := rfl
      by_cases hz : i = 0
      · subst hz
        obtain ⟨f, hf⟩ : ∃ f, (l.getD 0 (0, [])).1 = f := ⟨_, rfl⟩
        obtain ⟨ts, ht⟩ : ∃ ts, (l.getD 0 (0, [])).2 = ts := ⟨_, rfl⟩
        rw [hf] at hcl0 hst
        rw [ht] at HTS HMi hst
        have HST := Lib.hid hst
        clear hst
        have HLT := Lib.hid hlt
        obtain ⟨ta, tcap, htv, _⟩ := HTS.out
        subst htv
        rw [show off + 0 * 2 = off by omega] at hcl0 hcl1 hc0 hc1
        rw [hf] at hc0
        rw [ht] at hts
        have HBW := Lib.hid hbw
        have HC0 := Lib.hid hc0
        have HC1 := Lib.hid hc1
        have HTW := Lib.hid hts
        clear hf ht hlt hi hcell hbw hc0 hc1 hts
        have TD := Lib.hid (HTS.out.later (Below.refl wr.heap.size wr).drew)
        have hfacts : ∀ w', BoxAt w g [.int .i64 v, .string k, .slice (some ⟨gb, off, none⟩) l.length cap] w' → w'.cell? ⟨g, 2, none⟩ = some (.slice (some ⟨gb, off, none⟩) l.length cap) ∧ w'.cell? ⟨gb, off, none⟩ = some (.int .i64 f) ∧ w'.cell? ⟨gb, off + 1, none⟩ = some (.slice ta ts.length tcap) ∧ StrsAt w' (.slice ta ts.length tcap) ts := fun w' hS => ⟨hS.cell 2 _ rfl, (hS.below.cell (p := ⟨gb, off, none⟩) HBW.out).trans HC0.out, (hS.below.cell (p := ⟨gb, off + 1, none⟩) HBW.out).trans HC1.out, HTW.out.later hS.below⟩
        have HF := Lib.hid hfacts
        have HBD := Lib.hid (HBX.out.on (Below.refl wr.heap.size wr).drew)
        clear hfacts hcl0 hcl1
        obtain ⟨R, hR⟩ : ∃ R, rightSig f ts = R := ⟨_, rfl⟩
        have HR := Lib.hid hR
        clear hR
        go_wp2_with fail
        refine one_call (a1 := ?a1) [0, 1, 2, 3, 4] [6, 7, 8, 9, 10, 11, 12, 13, 14, 15, 16, 17, 18, 19, 20, 21, 22, 23, 24, 25, 26] 5 _ 36 47 #[.agg #[.int .i64 f, .slice ta ts.length tcap]] (.bool R) (fun w' => BoxAt w g [.int .i64 v, .string k, .slice (some ⟨gb, off, none⟩) l.length cap] w') (by kernel_rfl) (by kernel_rfl) (fun _ _ d _ _ h => by cases d <;> exact h) rfl rfl rfl HBD.out ?hread ?henter ?hcall ?htail
        case hread =>
          simp only [pick, List.filterMap, List.getElem?_toArray, List.getElem?_cons_zero, List.getElem?_cons_succ]
          iterate 5 (refine heldg_run ?_ rfl ?_ ?_; rotate_left; (focus (intro w' hS; obtain ⟨s0, s1, s2, _⟩ := HF.out w' hS; go_simp; exact rfl)); simp only [Act.put, List.setIfInBounds_toArray, List.set_cons_zero, List.set_cons_succ])
          exact rfl
        case henter => intro w'; go_simp
        case hcall =>
          intro w' hS
          refine (rightsig_any f _ ts _ (HF.out w' hS).2.2.2 HMi.out).mono ?_
          rintro e w4 ⟨rfl, hb4⟩
          exact ⟨by rw [HR.out], hS.on hb4⟩
        case htail =>
          simp only [pick, List.filterMap, List.getElem?_toArray, List.getElem?_cons_zero, List.getElem?_cons_succ, Act.put, List.setIfInBounds_toArray, List.set_cons_zero, List.set_cons_succ]
          cases R
          · iterate 21 (first | (refine heldg_skip rfl ?_; simp only [Act.put, List.setIfInBounds_toArray, List.set_cons_zero, List.set_cons_succ]) | (refine heldg_run ?_ rfl ?_ ?_; rotate_left; (focus (intro w' hS; obtain ⟨s0, s1, s2, _⟩ := HF.out w' hS; go_simp; exact rfl)); simp only [Act.put, List.setIfInBounds_toArray, List.set_cons_zero, List.set_cons_succ]))
            refine heldg_nil ?_
            intro w' hS
            have HBZ := Lib.hid hS
            clear hS
            go_wp2_with fail
            go_ret
            refine ⟨?_, HBZ.out.below⟩
            rw [← HX.out, okTo_mono l 1 l.length (by have := HLT.out; omega) (by rw [show 1 = 0 + 1 from rfl, HST.out, HR.out]; simp)]
            rfl
          · iterate 21 (first | (refine heldg_skip rfl ?_; simp only [Act.put, List.setIfInBounds_toArray, List.set_cons_zero, List.set_cons_succ]) | (refine heldg_run ?_ rfl ?_ ?_; rotate_left; (focus (intro w' hS; obtain ⟨s0, s1, s2, _⟩ := HF.out w' hS; go_simp; exact rfl)); simp only [Act.put, List.setIfInBounds_toArray, List.set_cons_zero, List.set_cons_succ]))
            refine heldg_nil ?_
            intro w' hS
            have HBZ := Lib.hid hS
            clear hS
            go_wp2_with fail
            go_roundw
            case rel => exact ⟨1, by have := HLT.out; omega, by go_num, by rw [show 1 = 0 + 1 from rfl, HST.out, HALL.out, HR.out]; simp, HBZ.out⟩
            case measure => have := HLT.out; simp [intOf]; omega
      · obtain ⟨m, rfl⟩ : ∃ m, i = m + 1 := ⟨i - 1, by omega⟩
        obtain ⟨pv, pc0, -, -⟩ := hcell m (by omega)
        rw [show m + 1 - 1 = m by omega] at hst
        obtain ⟨f, hf⟩ : ∃ f, (l.getD (m + 1) (0, [])).1 = f := ⟨_, rfl⟩
        obtain ⟨fp, hfp⟩ : ∃ f, (l.getD m (0, [])).1 = f := ⟨_, rfl⟩
        obtain ⟨ts, ht⟩ : ∃ ts, (l.getD (m + 1) (0, [])).2 = ts := ⟨_, rfl⟩
        rw [hf] at hc0 hst
        rw [hfp] at pc0 hst
        rw [ht] at hts HTS HMi hst
        have HST := Lib.hid hst
        have HLT := Lib.hid hlt
        obtain ⟨ta, tcap, htv, _⟩ := HTS.out
        subst htv
        have HBW := Lib.hid hbw
        have HC0 := Lib.hid hc0
        have HC1 := Lib.hid hc1
        have HP0 := Lib.hid pc0
        have HTW := Lib.hid hts
        have m1 : (m : Int) + 1 ≤ 7 := by omega
        have m0 : (0 : Int) ≤ (m : Int) := by omega
        have mlt : (m : Int) + 1 < (l.length : Int) := by omega
        have mlt' : (m : Int) < (l.length : Int) := by omega
        have mnz : (0 : Int) < (m : Int) + 1 := by omega
        have MW := Lib.hid (show IntKind.i64.wrap (m : Int) = (m : Int) by rw [IntKind.wrap_i64]; omega)
        have mnn : (0 : Int) ≤ (m : Int) + 1 := by omega
        clear hf hfp ht hlt hi hcell hbw hc0 hc1 hts hst pc0 hz hcl0 hcl1 i0 ib hlt'
        have TD := Lib.hid (HTS.out.later (Below.refl wr.heap.size wr).drew)
        have hfacts : ∀ w', BoxAt w g [.int .i64 v, .string k, .slice (some ⟨gb, off, none⟩) l.length cap] w' → w'.cell? ⟨g, 2, none⟩ = some (.slice (some ⟨gb, off, none⟩) l.length cap) ∧ w'.cell? ⟨gb, off + (m + 1) * 2, none⟩ = some (.int .i64 f) ∧ w'.cell? ⟨gb, off + (m + 1) * 2 + 1, none⟩ = some (.slice ta ts.length tcap) ∧ w'.cell? ⟨gb, off + m * 2, none⟩ = some (.int .i64 fp) ∧ StrsAt w' (.slice ta ts.length tcap) ts := fun w' hS => ⟨hS.cell 2 _ rfl, (hS.below.cell (p := ⟨gb, off + (m + 1) * 2, none⟩) HBW.out).trans HC0.out, (hS.below.cell (p := ⟨gb, off + (m + 1) * 2 + 1, none⟩) HBW.out).trans HC1.out, (hS.below.cell (p := ⟨gb, off + m * 2, none⟩) HBW.out).trans HP0.out, HTW.out.later hS.below⟩
        have HF := Lib.hid hfacts
        have HBD := Lib.hid (HBX.out.on (Below.refl wr.heap.size wr).drew)
        clear hfacts
        obtain ⟨R, hR⟩ : ∃ R, rightSig f ts = R := ⟨_, rfl⟩
        have HR := Lib.hid hR
        clear hR
        go_wp2_with fail
        refine one_call (a1 := ?a2) [0, 1, 2, 3, 4] [6, 7, 8, 9, 10, 11, 12, 13, 14, 15, 16, 17, 18, 19, 20, 21, 22, 23, 24, 25, 26] 5 _ 36 47 #[.agg #[.int .i64 f, .slice ta ts.length tcap]] (.bool R) (fun w' => BoxAt w g [.int .i64 v, .string k, .slice (some ⟨gb, off, none⟩) l.length cap] w') (by kernel_rfl) (by kernel_rfl) (fun _ _ d _ _ h => by cases d <;> exact h) rfl rfl rfl HBD.out ?hread ?henter ?hcall ?htail
        case hread =>
          simp only [pick, List.filterMap, List.getElem?_toArray, List.getElem?_cons_zero, List.getElem?_cons_succ]
          iterate 5 (refine heldg_run ?_ rfl ?_ ?_; rotate_left; (focus (intro w' hS; obtain ⟨s0, s1, s2, s3, _⟩ := HF.out w' hS; have mw := MW.out; go_simp; exact rfl)); simp only [Act.put, List.setIfInBounds_toArray, List.set_cons_zero, List.set_cons_succ])
          exact rfl
        case henter => intro w'; go_simp
        case hcall =>
          intro w' hS
          refine (rightsig_any f _ ts _ (HF.out w' hS).2.2.2.2 HMi.out).mono ?_
          rintro e w4 ⟨rfl, hb4⟩
          exact ⟨by rw [HR.out], hS.on hb4⟩
        case htail =>
          simp only [pick, List.filterMap, List.getElem?_toArray, List.getElem?_cons_zero, List.getElem?_cons_succ, Act.put, List.setIfInBounds_toArray, List.set_cons_zero, List.set_cons_succ]
          cases R
          · iterate 21 (first | (refine heldg_skip rfl ?_; simp only [Act.put, List.setIfInBounds_toArray, List.set_cons_zero, List.set_cons_succ]) | (refine heldg_run ?_ rfl ?_ ?_; rotate_left; (focus (intro w' hS; obtain ⟨s0, s1, s2, s3, _⟩ := HF.out w' hS; have mw := MW.out; go_simp; exact rfl)); simp only [Act.put, List.setIfInBounds_toArray, List.set_cons_zero, List.set_cons_succ]))
            refine heldg_nil ?_
            intro w' hS
            have HBZ := Lib.hid hS
            clear hS
            go_wp2_with fail
            go_ret
            refine ⟨?_, HBZ.out.below⟩
            rw [← HX.out, okTo_mono l (m + 1 + 1) l.length (by have := HLT.out; omega) (by rw [HST.out, HR.out]; simp)]
            rfl
          · by_cases hff : fp < f
            · have hd : decide (f ≤ fp) = false := by simp; omega
              iterate 21 (first | (refine heldg_skip rfl ?_; simp only [Act.put, List.setIfInBounds_toArray, List.set_cons_zero, List.set_cons_succ]) | (refine heldg_run ?_ rfl ?_ ?_; rotate_left; (focus (intro w' hS; obtain ⟨s0, s1, s2, s3, _⟩ := HF.out w' hS; have mw := MW.out; go_simp; exact rfl)); simp only [Act.put, List.setIfInBounds_toArray, List.set_cons_zero, List.set_cons_succ]))
              refine heldg_nil ?_
              intro w' hS
              have HBZ := Lib.hid hS
              have HFF := Lib.hid hff
              clear hS hff
              go_wp2_with fail
              go_roundw
              case rel => exact ⟨m + 1 + 1, by have := HLT.out; omega, by go_num, by rw [HST.out, HALL.out, HR.out]; simp [HFF.out], HBZ.out⟩
              case measure => have := HLT.out; simp [intOf]; omega
            · have hd : decide (f ≤ fp) = true := by simp; omega
              iterate 21 (first | (refine heldg_skip rfl ?_; simp only [Act.put, List.setIfInBounds_toArray, List.set_cons_zero, List.set_cons_succ]) | (refine heldg_run ?_ rfl ?_ ?_; rotate_left; (focus (intro w' hS; obtain ⟨s0, s1, s2, s3, _⟩ := HF.out w' hS; have mw := MW.out; go_simp; exact rfl)); simp only [Act.put, List.setIfInBounds_toArray, List.set_cons_zero, List.set_cons_succ]))
              refine heldg_nil ?_
              intro w' hS
              have HBZ := Lib.hid hS
              have HFF := Lib.hid hff
              clear hS hff
              go_wp2_with fail
              go_ret
              refine ⟨?_, HBZ.out.below⟩
              rw [← HX.out, okTo_mono l (m + 1 + 1) l.length (by have := HLT.out; omega) (by rw [HST.out, HR.out]; simp [HFF.out])]
              rfl
    · obtain rfl : i = l.length := by omega
      have hlt' : ¬ (l.length : Int) < (l.length : Int) := by omega
      clear hlt hi
      go_wp2_with fail
      go_ret
      exact ⟨by rw [← HX.out, HALL.out]; rfl, HBX.out.below⟩
theorem rightcert_any (v : Int) (k : ByteArray) (sv : Value) (l : List (Int × List ByteArray)) (w : World) (hv : SigsAt w sv l) (hn : MemS l) :
    Calls Try.prog 26 #[.agg #[.int .i64 v, .string k, sv]] w fun e w' => e = .returned (.bool (rightCert v k l)) ∧ Below w.heap.size w w' := by
  by_cases hb : BadC v k l.length
  · obtain ⟨a0, cap, rfl, _⟩ := hv
    refine (rightcert_bad v k a0 l.length cap w hb).mono ?_
    rintro e w' ⟨rfl, h⟩
    refine ⟨?_, h⟩
    rw [show rightCert v k l = false from ?_]
    unfold rightCert
    rcases hb with h | ⟨h0, h | ⟨h1, h | ⟨h2, h⟩⟩⟩
    · rw [show decide (0 ≤ v) = false by simp; omega]; simp
    · rw [show decide (v ≤ 1000000) = false by simp; omega]; simp
    · rw [show decide (k.size = 32) = false by rw [bne_iff_ne] at h; simp; omega]; simp
    · rw [show decide (l.length ≤ 7) = false by simp; omega]; simp
  · have h0 : 0 ≤ v := by
      apply Classical.byContradiction; intro h; exact hb (Or.inl (by omega))
    have h1 : v ≤ 1000000 := by
      apply Classical.byContradiction; intro h; exact hb (Or.inr ⟨h0, Or.inl (by omega)⟩)
    have hk : k.size = 32 := by
      apply Classical.byContradiction; intro h; exact hb (Or.inr ⟨h0, Or.inr ⟨h1, Or.inl (by rw [bne_iff_ne]; omega)⟩⟩)
    have h7 : l.length ≤ 7 := by
      apply Classical.byContradiction; intro h; exact hb (Or.inr ⟨h0, Or.inr ⟨h1, Or.inr ⟨by rw [hk]; rfl, by omega⟩⟩⟩)
    refine (rightcert_ok v k sv l w hv hn h0 h1 hk h7).mono ?_
    rintro e w' ⟨rfl, h⟩
    refine ⟨?_, h⟩
    unfold rightCert
    simp [h0, h1, hk, h7]
end Go.Proofs.Ytacnbpmoceocbaa
end
section
open Go Go.RowKit
namespace WW
open BB
instance (c q : Int) (s : ByteArray) : Decidable (rightR c q s) := by unfold rightR; infer_instance
/-- a right block -/
def rightBlock (v p cv : Int) (k : ByteArray) (l : List (Int × List ByteArray)) (m : List (Int × Int × ByteArray)) : Bool :=
  (decide (1 ≤ v) && (decide (v ≤ 1000000) && (decide (0 ≤ p) && (decide (p ≤ 6) && (rightCert cv k l && (decide (cv < v) && decide (m.length ≤ 3))))))) && m.all (fun r => decide (rightR r.1 r.2.1 r.2.2))
/-- the block's first fields are wrong, by the first thing that is -/
def BadB (v p : Int) : Prop := v < 1 ∨ 1 ≤ v ∧ ((1000000 : Int) < v ∨ v ≤ 1000000 ∧ (p < 0 ∨ 0 ≤ p ∧ 6 < p))
end WW
namespace Go.Proofs.Ytacnbpmoceocbaa
open WW BB
theorem rightreq_any (c q : Int) (s : ByteArray) (w : World) :
    Calls Try.prog 21 #[.agg #[.int .i64 c, .int .i64 q, .string s]] w fun e w' => e = .returned (.bool (decide (rightR c q s))) ∧ Below w.heap.size w w' := by
  by_cases h : rightR c q s
  · refine (right_yes c q s h w).mono ?_
    rintro e w' ⟨rfl, hb⟩
    exact ⟨by rw [decide_eq_true h], hb⟩
  · refine (right_no c q s (wrong_of h) w).mono ?_
    rintro e w' ⟨rfl, hb⟩
    exact ⟨by rw [decide_eq_false h], hb⟩
set_option maxRecDepth 100000 in
set_option maxHeartbeats 4000000 in
theorem rightblock_bad (v p cv : Int) (k : ByteArray) (sv rv : Value) (w : World) (h : BadB v p) :
    Calls Try.prog 16 #[.agg #[.int .i64 v, .int .i64 p, .int .i64 cv, .string k, sv, rv]] w fun e w' => e = .returned (.bool false) ∧ Below w.heap.size w w' := by
  rcases h with h | ⟨h0, h | ⟨h1, h | ⟨h2, h⟩⟩⟩
  all_goals
    go_enter Try.func16, Try.ntmps16
    go_wp2_with fail
    go_ret
    exact ⟨rfl, (Below.refl _ _).alloc (Nat.le_refl _) _⟩
set_option maxRecDepth 100000 in
set_option maxHeartbeats 4000000 in
theorem rightblock_ok (v p cv : Int) (k : ByteArray) (sv rv : Value) (l : List (Int × List ByteArray)) (m : List (Int × Int × ByteArray)) (w : World) (hv : SigsAt w sv l) (hr : ReqsAt w rv m) (hn : MemS l) (h0 : 1 ≤ v) (h1 : v ≤ 1000000) (h2 : 0 ≤ p) (h3 : p ≤ 6) :
    Calls Try.prog 16 #[.agg #[.int .i64 v, .int .i64 p, .int .i64 cv, .string k, sv, rv]] w fun e w' => e = .returned (.bool ((rightCert cv k l && (decide (cv < v) && decide (m.length ≤ 3))) && m.all (fun r => decide (rightR r.1 r.2.1 r.2.2)))) ∧ Below w.heap.size w w' := by
  obtain ⟨X, hX⟩ : ∃ X, ((rightCert cv k l && (decide (cv < v) && decide (m.length ≤ 3))) && m.all (fun r => decide (rightR r.1 r.2.1 r.2.2))) = X := ⟨_, rfl⟩
  rw [hX]
  have HX := Lib.hid hX
  have HV := Lib.hid hv
  have HN := Lib.hid hn
  have HR := Lib.hid hr
  obtain ⟨a0, cap, rfl, hx⟩ := hv
  obtain ⟨a1, cap1, rfl, hx1⟩ := hr
  clear hn hx hX hx1
  go_enter Try.func16, Try.ntmps16
  go_wp2_with fail
  have B0 := box_mk w [.int .i64 v, .int .i64 p, .int .i64 cv, .string k, .slice a0 l.length cap, .slice a1 m.length cap1] 31
  rw [show [Value.int .i64 v, .int .i64 p, .int .i64 cv, .string k, .slice a0 l.length cap, .slice a1 m.length cap1].toArray = #[.int .i64 v, .int .i64 p, .int .i64 cv, .string k, .slice a0 l.length cap, .slice a1 m.length cap1] from rfl] at B0
  obtain ⟨g, hg⟩ : ∃ g, w.heap.size = g := ⟨_, rfl⟩
  rw [hg] at B0 ⊢
  clear hg
  generalize w.alloc (.cells #[.int .i64 v, .int .i64 p, .int .i64 cv, .string k, .slice a0 l.length cap, .slice a1 m.length cap1] 31) = w0 at *
  refine (rightcert_any cv k _ l w0 (HV.out.later B0.below) HN.out).mono ?_
  rintro e w1 ⟨rfl, hb1⟩
  have B1 := B0.on hb1
  have HB1 := Lib.hid B1
  clear B0 hb1
  have c0 := B1.cell 0 _ rfl
  have c2 := B1.cell 2 _ rfl
  have c3 := B1.cell 3 _ rfl
  have c4 := B1.cell 4 _ rfl
  have c5 := B1.cell 5 _ rfl
  clear B1
  rcases hC : rightCert cv k l with _ | _
  · rw [hC] at HX
    have HC := Lib.hid hC
    clear hC
    go_wp2_with fail
    go_ret
    exact ⟨by rw [← HX.out]; rfl, HB1.out.below⟩
  rw [hC] at HX
  have HC := Lib.hid hC
  clear hC
  by_cases hcv : cv < v
  · have hcv' : ¬ v ≤ cv := by omega
    by_cases hm3 : m.length ≤ 3
    · have hm3' : ¬ (3 : Int) < (m.length : Int) := by omega
      have hX2 : X = m.all (fun r => decide (rightR r.1 r.2.1 r.2.2)) := by rw [← HX.out]; simp [hcv, hm3]
      have HX2 := Lib.hid hX2
      have HM3 := Lib.hid hm3
      clear hm3 hX2
      go_wp2_with fail
      go_loopw [3] (fun x wr => ∃ i : Nat, i ≤ m.length ∧ x = .int .i64 (i : Int) ∧ (m.take i).all (fun r => decide (rightR r.1 r.2.1 r.2.2)) = true ∧ BoxAt w g [.int .i64 v, .int .i64 p, .int .i64 cv, .string k, .slice a0 l.length cap, .slice a1 m.length cap1] wr) (fun x _ => m.length - (intOf x).toNat)
      case atStart => exact ⟨0, Nat.zero_le _, rfl, rfl, HB1.out⟩
      case round =>
        clear HB1 c0 c2 c3 c4 c5
        clear w1
        obtain ⟨i, hi, rfl, hall, hbox⟩ := hrel
        have HALL := Lib.hid hall
        have HBX := Lib.hid hbox
        have i0 : (0 : Int) ≤ (i : Int) := by omega
        have ib : (i : Int) ≤ 3 := by omega
        have c5 := hbox.cell 5 _ rfl
        clear hall hbox
        by_cases hlt : i < m.length
        · have hlt' : (i : Int) < (m.length : Int) := by omega
          obtain ⟨a2, cap2, he, hv | ⟨gb, off, rfl, hbw, hcell⟩⟩ := HR.out
          · rw [hv] at hlt; simp at hlt
          injection he with e1 _ e3
          subst e1 e3
          obtain ⟨hc0, hc1, hc2⟩ := hcell i hlt
          have hcl0 := (HBX.out.below.cell (p := ⟨gb, off + i * 3, none⟩) hbw).trans hc0
          have hcl1 := (HBX.out.below.cell (p := ⟨gb, off + i * 3 + 1, none⟩) hbw).trans hc1
          have hcl2 := (HBX.out.below.cell (p := ⟨gb, off + i * 3 + 2, none⟩) hbw).trans hc2
          have HSN := Lib.hid (all_take_snoc (fun r : Int × Int × ByteArray => decide (rightR r.1 r.2.1 r.2.2)) m (0, 0, ⟨#[]⟩) i hlt)
          obtain ⟨s, hs⟩ : ∃ s, (m.getD i (0, 0, ⟨#[]⟩)) = s := ⟨_, rfl⟩
          rw [hs] at hcl0 hcl1 hcl2 HSN
          obtain ⟨rc, rq, rs⟩ := s
          have HLT := Lib.hid hlt
          clear hs hlt hi hcell hbw hc0 hc1 hc2
          go_wp2_with fail
          refine (rightreq_any rc rq rs wr).mono ?_
          rintro e w4 ⟨rfl, hb4⟩
          have HB4 := Lib.hid (HBX.out.on hb4)
          clear hb4
          by_cases hq : rightR rc rq rs
          · rw [decide_eq_true hq]
            have HQ := Lib.hid hq
            clear hq
            go_wp2_with fail
            go_roundw
            case rel => exact ⟨i + 1, by have := HLT.out; omega, by go_num, by rw [HSN.out, HALL.out]; simpa using HQ.out, HB4.out⟩
            case measure => have := HLT.out; simp [intOf]; omega
          · rw [decide_eq_false hq]
            have HQ := Lib.hid hq
            clear hq
            go_wp2_with fail
            go_ret
            refine ⟨?_, HB4.out.below⟩
            have h1 := HSN.out
            rw [show decide (rightR rc rq rs) = false by simpa using HQ.out, Bool.and_false] at h1
            have h2 := all_take_mono _ m (i + 1) m.length (by have := HLT.out; omega) h1
            rw [List.take_length] at h2
            rw [HX2.out, h2]; rfl
        · obtain rfl : i = m.length := by omega
          have hlt' : ¬ (m.length : Int) < (m.length : Int) := by omega
          rw [List.take_length] at HALL
          clear hlt hi
          go_wp2_with fail
          go_ret
          exact ⟨by rw [HX2.out, HALL.out]; rfl, HBX.out.below⟩
    · have hm3' : (3 : Int) < (m.length : Int) := by omega
      have hX2 : X = false := by rw [← HX.out]; simp [hm3]
      have HX2 := Lib.hid hX2
      clear hm3 hX2
      go_wp2_with fail
      go_ret
      exact ⟨by rw [HX2.out]; rfl, HB1.out.below⟩
  · have hcv' : v ≤ cv := by omega
    have hX2 : X = false := by rw [← HX.out]; simp [hcv]
    have HX2 := Lib.hid hX2
    clear hX2 hcv
    go_wp2_with fail
    go_ret
    exact ⟨by rw [HX2.out]; rfl, HB1.out.below⟩
theorem rightblock_any (v p cv : Int) (k : ByteArray) (sv rv : Value) (l : List (Int × List ByteArray)) (m : List (Int × Int × ByteArray)) (w : World) (hv : SigsAt w sv l) (hr : ReqsAt w rv m) (hn : MemS l) :
    Calls Try.prog 16 #[.agg #[.int .i64 v, .int .i64 p, .int .i64 cv, .string k, sv, rv]] w fun e w' => e = .returned (.bool (rightBlock v p cv k l m)) ∧ Below w.heap.size w w' := by
  by_cases hb : BadB v p
  · refine (rightblock_bad v p cv k sv rv w hb).mono ?_
    rintro e w' ⟨rfl, h⟩
    refine ⟨?_, h⟩
    rw [show rightBlock v p cv k l m = false from ?_]
    unfold rightBlock
    rcases hb with h | ⟨h0, h | ⟨h1, h | ⟨h2, h⟩⟩⟩
    · rw [show decide (1 ≤ v) = false by simp; omega]; simp
    · rw [show decide (v ≤ 1000000) = false by simp; omega]; simp
    · rw [show decide (0 ≤ p) = false by simp; omega]; simp
    · rw [show decide (p ≤ 6) = false by simp; omega]; simp
  · have hg : 1 ≤ v ∧ v ≤ 1000000 ∧ 0 ≤ p ∧ p ≤ 6 := by unfold BadB at hb; omega
    obtain ⟨h0, h1, h2, h3⟩ := hg
    refine (rightblock_ok v p cv k sv rv l m w hv hr hn h0 h1 h2 h3).mono ?_
    rintro e w' ⟨rfl, h⟩
    refine ⟨?_, h⟩
    unfold rightBlock
    simp [h0, h1, h2, h3]
end Go.Proofs.Ytacnbpmoceocbaa
end
section
open Go Go.RowKit
namespace WW
open BB
/-- what cuts off a thing reads just what is written of right ones -/
structure Codec {α : Type} (Sp : ByteArray → Option (ByteArray × α)) (enc : α → ByteArray) (ok : α → Prop) : Prop where
  put : ∀ a r, ok a → Sp (enc a ++ r) = some (r, a)
  sound : ∀ b r a, Sp b = some (r, a) → b = enc a ++ r ∧ ok a
section
variable {α β : Type} {A : ByteArray → Option (ByteArray × α)} {B : ByteArray → Option (ByteArray × β)} {ea : α → ByteArray} {eb : β → ByteArray} {oa : α → Prop} {ob : β → Prop}
theorem Codec.inj (h : Codec A ea oa) {x y : α} (hx : oa x) (hy : oa y) (he : ea x = ea y) : x = y := by
  have h1 := h.put x ⟨#[]⟩ hx
  have h2 := h.put y ⟨#[]⟩ hy
  rw [he, h2] at h1
  simp only [Option.some.injEq, Prod.mk.injEq] at h1
  exact h1.2.symm
theorem Codec.size (h : Codec A ea oa) {b r : ByteArray} {a : α} (hb : A b = some (r, a)) : r.size ≤ b.size := by
  obtain ⟨e, _⟩ := h.sound b r a hb
  rw [e, ByteArray.size_append]; omega
/-- one behind the other -/
def seqSp (A : ByteArray → Option (ByteArray × α)) (B : ByteArray → Option (ByteArray × β)) (b : ByteArray) : Option (ByteArray × (α × β)) :=
  match A b with
  | none => none
  | some (r, x) => match B r with
    | none => none
    | some (r', y) => some (r', (x, y))
theorem seq_some {b r r' : ByteArray} {x : α} {y : β} (h1 : A b = some (r, x)) (h2 : B r = some (r', y)) : seqSp A B b = some (r', (x, y)) := by
  unfold seqSp; rw [h1]; dsimp only; rw [h2]
theorem seq_none1 {b : ByteArray} (h1 : A b = none) : seqSp A B b = none := by unfold seqSp; rw [h1]
theorem seq_none2 {b r : ByteArray} {x : α} (h1 : A b = some (r, x)) (h2 : B r = none) : seqSp A B b = none := by unfold seqSp; rw [h1]; dsimp only; rw [h2]
theorem seq_inv {b r' : ByteArray} {x : α} {y : β} (h : seqSp A B b = some (r', (x, y))) : ∃ r, A b = some (r, x) ∧ B r = some (r', y) := by
  unfold seqSp at h
  rcases h1 : A b with _ | ⟨r, x1⟩
  · rw [h1] at h; cases h
  rw [h1] at h
  dsimp only at h
  rcases h2 : B r with _ | ⟨r2, y2⟩
  · rw [h2] at h; cases h
  rw [h2] at h
  simp only [Option.some.injEq, Prod.mk.injEq] at h
  obtain ⟨rfl, rfl, rfl⟩ := h
  exact ⟨r, rfl, h2⟩
theorem Codec.seq (ha : Codec A ea oa) (hb : Codec B eb ob) : Codec (seqSp A B) (fun p => ea p.1 ++ eb p.2) (fun p => oa p.1 ∧ ob p.2) where
  put := fun ⟨x, y⟩ r ⟨h1, h2⟩ => by
    refine seq_some (r := eb y ++ r) ?_ (hb.put y r h2)
    show A (ea x ++ eb y ++ r) = _
    rw [ByteArray.append_assoc]; exact ha.put x _ h1
  sound := fun b r ⟨x, y⟩ h => by
    obtain ⟨r1, h1, h2⟩ := seq_inv h
    obtain ⟨e1, o1⟩ := ha.sound _ _ _ h1
    obtain ⟨e2, o2⟩ := hb.sound _ _ _ h2
    exact ⟨by show b = ea x ++ eb y ++ r; rw [e1, e2, ByteArray.append_assoc], o1, o2⟩
/-- what holds of it, too -/
def filtSp (A : ByteArray → Option (ByteArray × α)) (p : α → Bool) (b : ByteArray) : Option (ByteArray × α) :=
  match A b with
  | none => none
  | some (r, x) => if p x then some (r, x) else none
theorem filt_some {p : α → Bool} {b r : ByteArray} {x : α} (h1 : A b = some (r, x)) : filtSp A p b = if p x = true then some (r, x) else none := by unfold filtSp; rw [h1]
theorem filt_none {p : α → Bool} {b : ByteArray} (h1 : A b = none) : filtSp A p b = none := by unfold filtSp; rw [h1]
theorem filt_inv {p : α → Bool} {b r : ByteArray} {x : α} (h : filtSp A p b = some (r, x)) : A b = some (r, x) ∧ p x = true := by
  unfold filtSp at h
  rcases h1 : A b with _ | ⟨r1, x1⟩
  · rw [h1] at h; cases h
  rw [h1] at h
  dsimp only at h
  split at h
  · rename_i hp
    simp only [Option.some.injEq, Prod.mk.injEq] at h
    obtain ⟨rfl, rfl⟩ := h
    exact ⟨rfl, hp⟩
  · cases h
theorem Codec.filt (ha : Codec A ea oa) (p : α → Bool) : Codec (filtSp A p) ea (fun x => oa x ∧ p x = true) where
  put := fun x r ⟨h1, h2⟩ => by rw [filt_some (ha.put x r h1), if_pos h2]
  sound := fun b r x h => by
    obtain ⟨h1, h2⟩ := filt_inv h
    obtain ⟨e, o⟩ := ha.sound _ _ _ h1
    exact ⟨e, o, h2⟩
/-- what is read is told by another thing -/
def mapSp (g : α → β) (A : ByteArray → Option (ByteArray × α)) (b : ByteArray) : Option (ByteArray × β) :=
  match A b with
  | none => none
  | some (r, x) => some (r, g x)
theorem map_some {g : α → β} {b r : ByteArray} {x : α} (h : A b = some (r, x)) : mapSp g A b = some (r, g x) := by unfold mapSp; rw [h]
theorem map_none {g : α → β} {b : ByteArray} (h : A b = none) : mapSp g A b = none := by unfold mapSp; rw [h]
theorem map_inv {g : α → β} {b r : ByteArray} {y : β} (h : mapSp g A b = some (r, y)) : ∃ x, A b = some (r, x) ∧ y = g x := by
  unfold mapSp at h
  rcases h1 : A b with _ | ⟨r1, x1⟩
  · rw [h1] at h; cases h
  rw [h1] at h
  simp only [Option.some.injEq, Prod.mk.injEq] at h
  obtain ⟨rfl, rfl⟩ := h
  exact ⟨x1, rfl, rfl⟩
theorem Codec.map (ha : Codec A ea oa) (g : α → β) (eb : β → ByteArray) (ob : β → Prop) (he : ∀ x, oa x → eb (g x) = ea x) (ho : ∀ x, oa x → ob (g x)) (hs : ∀ y, ob y → ∃ x, oa x ∧ g x = y) : Codec (mapSp g A) eb ob where
  put := fun y r h => by
    obtain ⟨x, hx, rfl⟩ := hs y h
    rw [he x hx]; exact map_some (ha.put x r hx)
  sound := fun b r y h => by
    obtain ⟨x, h1, rfl⟩ := map_inv h
    obtain ⟨e, o⟩ := ha.sound _ _ _ h1
    exact ⟨by rw [he x o]; exact e, ho x o⟩
/-- n of them -/
def repSp (A : ByteArray → Option (ByteArray × α)) : Nat → ByteArray → Option (ByteArray × List α)
  | 0, b => some (b, [])
  | n + 1, b => match A b with
    | none => none
    | some (r, x) => match repSp A n r with
      | none => none
      | some (r', l) => some (r', x :: l)
def catB (xs : List ByteArray) : ByteArray := ⟨(flat xs).toArray⟩
theorem catB_cons (x : ByteArray) (xs : List ByteArray) : catB (x :: xs) = x ++ catB xs := by
  apply ba_ext; rw [ByteArray.data_append, Array.toList_append]; simp [catB, flat]
theorem listB_cat (xs : List ByteArray) : listB xs = be4 xs.length ++ catB xs := by
  apply ba_ext; rw [ByteArray.data_append, Array.toList_append]; simp [catB, listB, listL]
theorem Codec.rep (ha : Codec A ea oa) : ∀ n, Codec (repSp A n) (fun l => catB (l.map ea)) (fun l => l.length = n ∧ ∀ x ∈ l, oa x)
  | 0 => ⟨fun l r h => by
      obtain ⟨h, _⟩ := h
      rw [List.length_eq_zero_iff] at h
      subst h
      show some (catB [] ++ r, []) = _
      rw [show catB [] ++ r = r from ba_ext (by rw [ByteArray.data_append, Array.toList_append]; simp [catB, flat])],
    fun b r l h => by
      have h : some (b, ([] : List α)) = some (r, l) := h
      simp only [Option.some.injEq, Prod.mk.injEq] at h
      obtain ⟨rfl, rfl⟩ := h
      exact ⟨by apply ba_ext; rw [ByteArray.data_append, Array.toList_append]; simp [catB, flat], rfl, by simp⟩⟩
  | n + 1 => ⟨fun l r h => by
      obtain ⟨hn, ho⟩ := h
      match l, hn with
      | x :: l, hn =>
        have ih := (Codec.rep ha n).put l r ⟨by simpa using hn, fun y hy => ho y (List.mem_cons_of_mem _ hy)⟩
        have h1 := ha.put x (catB (l.map ea) ++ r) (ho x (List.mem_cons_self ..))
        rw [List.map_cons, catB_cons, ByteArray.append_assoc]
        unfold repSp
        rw [h1]
        dsimp only
        rw [ih],
    fun b r l h => by
      unfold repSp at h
      rcases h1 : A b with _ | ⟨r1, x⟩
      · rw [h1] at h; cases h
      rw [h1] at h
      dsimp only at h
      rcases h2 : repSp A n r1 with _ | ⟨r2, l2⟩
      · rw [h2] at h; cases h
      rw [h2] at h
      simp only [Option.some.injEq, Prod.mk.injEq] at h
      obtain ⟨rfl, rfl⟩ := h
      obtain ⟨e1, o1⟩ := ha.sound _ _ _ h1
      obtain ⟨e2, o2, o3⟩ := (Codec.rep ha n).sound _ _ _ h2
      refine ⟨by rw [List.map_cons, catB_cons, ByteArray.append_assoc, e1, e2], by simp [o2], fun y hy => ?_⟩
      rcases List.mem_cons.1 hy with rfl | hy
      · exact o1
      · exact o3 y hy⟩
/-- how many there are, and each of them -/
def countSp (most : Int) (A : ByteArray → Option (ByteArray × α)) (b : ByteArray) : Option (ByteArray × List α) :=
  match numSp 0 most b with
  | none => none
  | some (r, N) => repSp A N r
theorem count_some {most : Int} {b r : ByteArray} {N : Nat} (h : numSp 0 most b = some (r, N)) : countSp most A b = repSp A N r := by unfold countSp; rw [h]
theorem count_none {most : Int} {b : ByteArray} (h : numSp 0 most b = none) : countSp most A b = none := by unfold countSp; rw [h]
theorem Codec.count (ha : Codec A ea oa) (most : Nat) (hm : most ≤ 2147483647) : Codec (countSp (most : Int) A) (fun l => listB (l.map ea)) (fun l => l.length ≤ most ∧ ∀ x ∈ l, oa x) where
  put := fun l r ⟨h1, h2⟩ => by
    rw [listB_cat, ByteArray.append_assoc, List.length_map]
    have e : numSp 0 (most : Int) (be4 l.length ++ (catB (l.map ea) ++ r)) = some (catB (l.map ea) ++ r, l.length) := by rw [numSp_put _ _ _ (by omega), if_neg (by omega)]
    rw [count_some e]
    exact (ha.rep l.length).put l r ⟨rfl, h2⟩
  sound := fun b r l h => by
    unfold countSp at h
    rcases h1 : numSp 0 (most : Int) b with _ | ⟨r1, N⟩
    · rw [h1] at h; cases h
    rw [h1] at h
    dsimp only at h
    obtain ⟨e1, _, e3⟩ := numSp_sound h1
    obtain ⟨e2, o2, o3⟩ := (ha.rep N).sound _ _ _ h
    refine ⟨?_, by omega, o3⟩
    rw [listB_cat, List.length_map, o2, ByteArray.append_assoc, e1, e2]
end
theorem codec_num0 (lo hi : Int) (h1 : hi ≤ 2147483647) : Codec (numSp lo hi) be4 (fun n => lo ≤ (n : Int) ∧ (n : Int) ≤ hi) where
  put := fun n r h => by rw [numSp_put _ _ _ (by omega), if_neg (by omega)]
  sound := fun b r n h => by
    obtain ⟨e, h1, h2⟩ := numSp_sound h
    exact ⟨e, h1, h2⟩
/-- a number -/
def numI (lo hi : Int) : ByteArray → Option (ByteArray × Int) := mapSp (fun n : Nat => (n : Int)) (numSp lo hi)
theorem codec_num (lo hi : Int) (h0 : 0 ≤ lo) (h1 : hi ≤ 2147483647) : Codec (numI lo hi) num (fun n => lo ≤ n ∧ n ≤ hi) :=
  (codec_num0 lo hi h1).map _ num _ (fun x h => num_nat x (by omega)) (fun x h => h) (fun y h => ⟨y.toNat, by omega, by omega⟩)
theorem codec_bytes (n : Nat) : Codec (bytesSp n) (fun s => s) (fun s => s.size = n) where
  put := fun s r h => by subst h; exact bytesSp_put s r
  sound := fun b r s h => bytesSp_sound h
/-- a request -/
def reqI : ByteArray → Option (ByteArray × (Int × Int × ByteArray)) := mapSp (fun d : Nat × Nat × ByteArray => ((d.1 : Int), (d.2.1 : Int), d.2.2)) reqSp
theorem codec_req : Codec reqI (fun r => reqB r.1 r.2.1 r.2.2) (fun r => rightR r.1 r.2.1 r.2.2) :=
  Codec.map (A := reqSp) (ea := fun d => reqB (d.1 : Int) (d.2.1 : Int) d.2.2) (oa := fun d => rightR d.1 d.2.1 d.2.2)
    ⟨fun ⟨c, q, s⟩ r h => reqSp_put c q s r h, fun b r ⟨c, q, s⟩ h => reqSp_sound h⟩ _ _ _ (fun _ _ => rfl) (fun _ h => h) (fun ⟨c, q, s⟩ h => by
      obtain ⟨h0, h1, h2, h3, h4⟩ := (show rightR c q s from h)
      refine ⟨(c.toNat, q.toNat, s), ?_, ?_⟩
      · show rightR ((c.toNat : Nat) : Int) ((q.toNat : Nat) : Int) s
        unfold rightR; omega
      · show (((c.toNat : Nat) : Int), ((q.toNat : Nat) : Int), s) = _
        rw [show ((c.toNat : Nat) : Int) = c by omega, show ((q.toNat : Nat) : Int) = q by omega])
/-- a signature -/
def sigI : ByteArray → Option (ByteArray × (Int × List ByteArray)) := seqSp (numI 0 6) (countSp 7 (bytesSp 16))
theorem codec_sig : Codec sigI (fun p => sigB p.1 p.2) (fun p => rightSig p.1 p.2 = true) := by
  have h := (codec_num 0 6 (by omega) (by omega)).seq ((codec_bytes 16).count 7 (by omega))
  refine ⟨fun p r hp => ?_, fun b r p hp => ?_⟩
  · have h1 : (0 ≤ p.1 ∧ p.1 ≤ 6) ∧ p.2.length ≤ 7 ∧ ∀ x ∈ p.2, x.size = 16 := by
      unfold rightSig at hp
      simp only [Bool.and_eq_true, decide_eq_true_eq, List.all_eq_true] at hp
      obtain ⟨h1, ⟨h2, h3⟩, h4⟩ := hp
      rw [List.take_of_length_le (by omega)] at h1
      exact ⟨⟨h2, by omega⟩, h4, h1⟩
    have := h.put p r h1
    rw [show num p.1 ++ listB (p.2.map fun s => s) = sigB p.1 p.2 by rw [List.map_id']; rfl] at this
    exact this
  · obtain ⟨e, ⟨h2, h3⟩, h4, h1⟩ := h.sound b r p hp
    rw [show num p.1 ++ listB (p.2.map fun s => s) = sigB p.1 p.2 by rw [List.map_id']; rfl] at e
    refine ⟨e, ?_⟩
    unfold rightSig
    simp only [Bool.and_eq_true, decide_eq_true_eq, List.all_eq_true]
    refine ⟨?_, ⟨h2, by omega⟩, h4⟩
    rw [List.take_of_length_le (by omega)]
    exact h1
/-- each is of a greater node than the one ahead -/
def risesTo (l : List (Int × List ByteArray)) : Nat → Bool
  | 0 => true
  | i + 1 => risesTo l i && (decide (i = 0) || decide ((l.getD (i - 1) (0, [])).1 < (l.getD i (0, [])).1))
def rises (l : List (Int × List ByteArray)) : Bool := risesTo l l.length
theorem okTo_iff (l : List (Int × List ByteArray)) (n : Nat) : okTo l n = true ↔ (∀ i, i < n → rightSig (l.getD i (0, [])).1 (l.getD i (0, [])).2 = true) ∧ risesTo l n = true := by
  induction n with
  | zero => exact ⟨fun _ => ⟨fun i hi => by omega, rfl⟩, fun _ => rfl⟩
  | succ n ih =>
    show (okTo l n && (_ && _)) = true ↔ _ ∧ (risesTo l n && _) = true
    rw [Bool.and_eq_true, Bool.and_eq_true, Bool.and_eq_true, ih]
    constructor
    · rintro ⟨⟨h1, h2⟩, h3, h4⟩
      refine ⟨fun i hi => ?_, h2, h4⟩
      by_cases e : i = n
      · subst e; exact h3
      · exact h1 i (by omega)
    · rintro ⟨h1, h2, h4⟩
      exact ⟨⟨fun i hi => h1 i (by omega), h2⟩, h1 n (by omega), h4⟩
theorem all_getD {l : List (Int × List ByteArray)} {p : Int × List ByteArray → Prop} : (∀ i, i < l.length → p (l.getD i (0, []))) ↔ ∀ x ∈ l, p x := by
  constructor
  · intro h x hx
    obtain ⟨i, hi, rfl⟩ := List.mem_iff_getElem.1 hx
    have := h i hi
    rwa [List.getD_eq_getElem?_getD, List.getElem?_eq_getElem hi] at this
  · intro h i hi
    rw [List.getD_eq_getElem?_getD, List.getElem?_eq_getElem hi]
    exact h _ (List.getElem_mem hi)
abbrev CertD := (Int × ByteArray) × List (Int × List ByteArray)
abbrev BlockD := ((Int × Int) × CertD) × List (Int × Int × ByteArray)
def certD (c : CertD) : ByteArray := certB c.1.1 c.1.2 c.2
def certOk (c : CertD) : Prop := rightCert c.1.1 c.1.2 c.2 = true
/-- a certificate -/
def certI : ByteArray → Option (ByteArray × CertD) := filtSp (seqSp (seqSp (numI 0 1000000) (bytesSp 32)) (countSp 7 sigI)) (fun c => rises c.2)
theorem codec_cert : Codec certI certD certOk := by
  have h := (((codec_num 0 1000000 (by omega) (by omega)).seq (codec_bytes 32)).seq (codec_sig.count 7 (by omega))).filt (fun c => rises c.2)
  refine ⟨fun c r hc => ?_, fun b r c hc => ?_⟩
  · unfold certOk rightCert at hc
    simp only [Bool.and_eq_true, decide_eq_true_eq] at hc
    obtain ⟨⟨⟨⟨h1, h2⟩, h3⟩, h4⟩, h5⟩ := hc
    rw [okTo_iff] at h5
    exact h.put c r ⟨⟨⟨⟨h1, h2⟩, h3⟩, h4, all_getD.1 h5.1⟩, h5.2⟩
  · obtain ⟨e, ⟨⟨⟨h1, h2⟩, h3⟩, h4, h5⟩, h6⟩ := h.sound b r c hc
    refine ⟨e, ?_⟩
    unfold certOk rightCert
    simp only [Bool.and_eq_true, decide_eq_true_eq]
    exact ⟨⟨⟨⟨h1, h2⟩, h3⟩, h4⟩, (okTo_iff _ _).2 ⟨all_getD.2 h5, h6⟩⟩
def blockD (x : BlockD) : ByteArray := blockB x.1.1.1 x.1.1.2 x.1.2.1.1 x.1.2.1.2 x.1.2.2 x.2
def blockOk (x : BlockD) : Prop := rightBlock x.1.1.1 x.1.1.2 x.1.2.1.1 x.1.2.1.2 x.1.2.2 x.2 = true
/-- a block -/
def blockI : ByteArray → Option (ByteArray × BlockD) := seqSp (filtSp (seqSp (seqSp (numI 1 1000000) (numI 0 6)) certI) (fun x => decide (x.2.1.1 < x.1.1))) (countSp 3 reqI)
theorem codec_block : Codec blockI blockD blockOk := by
  have h := ((((codec_num 1 1000000 (by omega) (by omega)).seq (codec_num 0 6 (by omega) (by omega))).seq codec_cert).filt (fun x => decide (x.2.1.1 < x.1.1))).seq (codec_req.count 3 (by omega))
  refine ⟨fun x r hc => ?_, fun b r x hc => ?_⟩
  · unfold blockOk rightBlock at hc
    simp only [Bool.and_eq_true, decide_eq_true_eq, List.all_eq_true] at hc
    obtain ⟨⟨h1, h2, h3, h4, h5, h6, h7⟩, h8⟩ := hc
    exact h.put x r ⟨⟨⟨⟨⟨h1, h2⟩, h3, h4⟩, h5⟩, by simpa using h6⟩, h7, h8⟩
  · obtain ⟨e, ⟨⟨⟨⟨h1, h2⟩, h3, h4⟩, h5⟩, h6⟩, h7, h8⟩ := h.sound b r x hc
    refine ⟨e, ?_⟩
    unfold blockOk rightBlock
    simp only [Bool.and_eq_true, decide_eq_true_eq, List.all_eq_true]
    exact ⟨⟨h1, h2, h3, h4, h5, by simpa using h6, h7⟩, h8⟩
end WW
end
section
open Go Go.RowKit
namespace BB
section
variable {P : Program} {ops : Array Oper} {md : Region.Mode} {w : World} {S : World → Prop} {Q : Exit → Act → World → Prop}
def wpHeld (P : Program) (ops : Array Oper) (S : World → Prop) (K : Act → Prop) : List Oper → Act → Prop
  | [], a => K a
  | o :: r, a => ∃ v, YieldsIf P ops S o v a ∧ wpHeld P ops S K r (a.put o.dst v)
theorem held_step {K : Act → Prop} {o : Oper} {rest : List Oper} {a : Act} (v : Value) (hg : o.guard = none) (h : ∀ w, S w → (execOp a.eval o).run P w = .ok (.value v) w)
    (hK : wpHeld P ops S K rest (a.put o.dst v)) : wpHeld P ops S K (o :: rest) a := ⟨v, .inl ⟨by simp [Region.wanted, hg], h⟩, hK⟩
theorem wpAnyH_of_held {K : Act → Prop} {k : Array Bool → Bool} {g : Nat} (hsel : Region.noSelect ops = true) (hQ : ∀ c a d v w, Q (.panic c) (Act.put a d v) w → Q (.panic c) a w) (hS : S w)
    (hK : ∀ listed a, k listed = true → K a → wpAnyH P md ops Q S g listed a w) : ∀ (l : List Nat) (listed : Array Bool) (a : Act), preB md ops k l listed = true → wpHeld P ops S K (pick ops l) a →
    wpAnyH P md ops Q S (l.length + g) listed a w
  | [], listed, a, hB, h => by simpa using hK listed a hB h
  | i :: l, listed, a, hB, h => by
    simp only [preB, Bool.and_eq_true] at hB
    obtain ⟨⟨hr, hf⟩, hB'⟩ := hB
    obtain ⟨_, o, h0, _⟩ := mem_ready.1 (show i ∈ Region.ready md ops listed by simpa using hr)
    rw [pick_cons h0] at h
    obtain ⟨v, hy, h⟩ := h
    rw [show (i :: l).length + g = (l.length + g) + 1 by simp; omega]
    exact wpAnyH_take h0 hsel hf hr (fun c a w => hQ c a _ _ w) hy hS (wpAnyH_of_held hsel hQ hS hK l _ _ hB' h)
/-- the tail's orders: c or n first, the other one, then t -/
def twoB (md : Region.Mode) (ops : Array Oper) (c n t : Nat) (listed : Array Bool) : Bool :=
  decide (Region.ready md ops listed = [c, n]) && decide (Region.ready md ops (listed.setIfInBounds c true) = [n]) && decide (Region.ready md ops (listed.setIfInBounds n true) = [c]) &&
  decide (Region.ready md ops ((listed.setIfInBounds c true).setIfInBounds n true) = [t]) && decide (Region.ready md ops ((listed.setIfInBounds n true).setIfInBounds c true) = [t]) &&
  decide (Region.ready md ops (((listed.setIfInBounds c true).setIfInBounds n true).setIfInBounds t true) = []) && decide (Region.ready md ops (((listed.setIfInBounds n true).setIfInBounds c true).setIfInBounds t true) = [])
theorem op_value {i : Nat} {o : Oper} {v : Value} {a : Act} {w w' : World} {K : Act → World → Prop} (ho : ops[i]? = some o) (hg : o.guard = none) (h : (execOp a.eval o).run P w = .ok (.value v) w') (hK : K (a.put o.dst v) w') : wpOp P ops Q i K a w := by
  unfold wpOp; simp only [ho, Region.wanted, hg, if_true]
  left; unfold Oper.wp; rw [h]; exact hK
theorem op_skip {i : Nat} {o : Oper} {a : Act} {w w' : World} {K : Act → World → Prop} (ho : ops[i]? = some o) (hg : o.guard = none) (h : (execOp a.eval o).run P w = .ok .skip w') (hK : K (a.put o.dst undef) w') : wpOp P ops Q i K a w := by
  unfold wpOp; simp only [ho, Region.wanted, hg, if_true]
  left; unfold Oper.wp; rw [h]; exact hK
theorem op_call {i f : Nat} {args : Array Value} {o : Oper} {v : Value} {a : Act} {w : World} {K : Act → World → Prop} {R : World → Prop} (ho : ops[i]? = some o) (hg : o.guard = none) (h : (execOp a.eval o).run P w = .ok (.enter f args) w)
    (hc : Calls P f args w fun e w' => e = .returned v ∧ R w') (hK : ∀ w', R w' → K (a.put o.dst v) w') : wpOp P ops Q i K a w := by
  unfold wpOp; simp only [ho, Region.wanted, hg, if_true]
  left; unfold Oper.wp; rw [h]
  exact hc.mono fun e w' ⟨he, hR⟩ => by subst he; exact hK w' hR
theorem call_alloc {id : Nat} {a a1 : Act} {l : List Oper} (hd : List Nat) (c n t : Nat) (oc on ot : Oper) (f m : Nat) (args : Array Value) (g : Nat → Value) (z : Array Value) (T TA dc dn : Nat) (hm : P.follows .mixedOrders = true)
    (hB : (Region.noSelect l.toArray && preB .any l.toArray (twoB .any l.toArray c n t) hd (Array.replicate l.toArray.size false) && decide (hd.length + 3 = l.toArray.size)) = true)
    (hQ : ∀ c a d v w, Q (.panic c) (Act.put a d v) w → Q (.panic c) a w)
    (hoc : l.toArray[c]? = some oc) (hon : l.toArray[n]? = some on) (hot : l.toArray[t]? = some ot) (hgc : oc.guard = none) (hgn : on.guard = none) (hgt : ot.guard = none)
    (hdc : oc.dst = some dc) (hdn : on.dst = some dn) (hdt : ot.dst = none) (hne : dc ≠ dn)
    (hread : ∀ w2, Same w w2 → wpHeld P l.toArray (fun w' => Below w2.heap.size w2 w') (fun a' => a' = a1) (pick l.toArray hd) a)
    (hc1 : ∀ w', (execOp a1.eval oc).run P w' = .ok (.enter f args) w') (hc2 : ∀ p w', (execOp (a1.put (some dn) p).eval oc).run P w' = .ok (.enter f args) w')
    (hcall : ∀ w2 w', Same w w2 → Below w2.heap.size w2 w' → Calls P f args w' fun e w'' => e = .returned (.agg (row m g)) ∧ Below w'.heap.size w' w'')
    (hno : on.op = .alloc TA) (hal : ∀ w' : World, (Instr.alloc TA true (.tuple #[])).run P w' = .ok (.pointer (some ⟨w'.heap.size, 0, none⟩)) (w'.alloc (.cells z T))) (hz : ∃ z', z = row m z')
    (ht : ∀ (p : Nat), ((a1.put (some dc) (.agg (row m g))).put (some dn) (.pointer (some ⟨p, 0, none⟩))).eval (.tmp dn) = .pointer (some ⟨p, 0, none⟩) ∧ ((a1.put (some dc) (.agg (row m g))).put (some dn) (.pointer (some ⟨p, 0, none⟩))).eval (.tmp dc) = .agg (row m g))
    (hto : ot.op = .store T (.tmp dn) (.tmp dc)) (hST : ∀ w', (Go.sizeOf T).run P w' = .ok m w') (hg1 : ∀ i, i < m → (g i).oneCell' = true)
    (hK : ∀ (p : Nat) (w' : World), Below w.heap.size w w' → w.heap.size ≤ p → Blk w' p m g → Q .normal ((a1.put (some dc) (.agg (row m g))).put (some dn) (.pointer (some ⟨p, 0, none⟩))) w') :
    (Code.region id l.toArray true).wp P Q a w := by
  simp only [Bool.and_eq_true, decide_eq_true_eq] at hB
  obtain ⟨⟨hsel, hp⟩, hsz⟩ := hB
  obtain ⟨z', rfl⟩ := hz
  have hn : ∀ (a : Act) (w' : World), (execOp a.eval on).run P w' = .ok (.value (.pointer (some ⟨w'.heap.size, 0, none⟩))) (w'.alloc (.cells (row m z') T)) := fun a w' => by
    unfold execOp; simp only [hno, Sem.run_bind, hal, Result.andThen_ok, Sem.run_pure]
  have w2s : Same w { w with drawn := w.drawn + 1 } := ⟨rfl, rfl, rfl, rfl⟩
  refine wp_region_held (S := fun w' => Below w.heap.size { w with drawn := w.drawn + 1 } w') hm ?_
  have fin : ∀ (p : Nat) (w' : World) (listed : Array Bool), Below w.heap.size { w with drawn := w.drawn + 1 } w' → w.heap.size ≤ p → Blk w' p m z' → Region.ready .any l.toArray listed = [t] → Region.ready .any l.toArray (listed.setIfInBounds t true) = [] →
      wpAnyH P .any l.toArray Q (fun w' => Below w.heap.size { w with drawn := w.drawn + 1 } w') 1 listed ((a1.put (some dc) (.agg (row m g))).put (some dn) (.pointer (some ⟨p, 0, none⟩))) w' := by
    intro p w' listed hb hpb hblk hr hr'
    refine wpAnyH_all hr (by simp) fun i hi => ?_
    obtain rfl : i = t := by simpa using hi
    obtain ⟨w3, hrun, hms⟩ := run_op_store (a := (a1.put (some dc) (.agg (row m g))).put (some dn) (.pointer (some ⟨p, 0, none⟩))) (o := ot) (P := P) (w := w') hto (ht p).1 (ht p).2 (hST _) hblk (by omega) hg1
    refine op_skip hot hgt hrun ?_
    have hb3 : Below w.heap.size { w with drawn := w.drawn + 1 } w3 := hb.trans (hms.2.below hpb)
    refine ⟨hb3, wpAnyH_done hr' ?_ _⟩
    rw [hdt]
    exact hK p w3 ((w2s.below _).trans hb3) hpb (hms.1.congr _ fun i hi => by simp [hi])
  have key := wpAnyH_of_held (Q := Q) (S := fun w' => Below w.heap.size { w with drawn := w.drawn + 1 } w') (w := { w with drawn := w.drawn + 1 }) (k := twoB .any l.toArray c n t) (K := fun a' => a' = a1) (g := 3) hsel hQ (Below.refl _ _)
    (fun listed a' hk ha' => ?_) hd (Array.replicate l.toArray.size false) a hp (hread _ w2s)
  · rw [hsz] at key; exact key
  subst ha'
  simp only [twoB, Bool.and_eq_true, decide_eq_true_eq] at hk
  obtain ⟨⟨⟨⟨⟨⟨r0, r1⟩, r2⟩, r3⟩, r4⟩, r5⟩, r6⟩ := hk
  refine wpAnyH_all r0 (by simp) fun i hi => ?_
  rcases List.mem_cons.1 hi with rfl | hi
  · refine op_call hoc hgc (hc1 _) (hcall _ _ w2s (Below.refl _ _)) fun w3 hb3 => ?_
    have hb3' : Below w.heap.size { w with drawn := w.drawn + 1 } w3 := hb3
    refine ⟨hb3', wpAnyH_all r1 (by simp) fun j hj => ?_⟩
    obtain rfl : j = n := by simpa using hj
    refine op_value hon hgn (hn _ _) ?_
    have hb4 : Below w.heap.size { w with drawn := w.drawn + 1 } (w3.alloc (.cells (row m z') T)) := hb3'.alloc hb3'.size _
    refine ⟨hb4, ?_⟩
    rw [hdc, hdn]
    exact fin _ _ _ hb4 hb3'.size (Blk.new _ _ _ _ _ rfl) r3 r5
  · obtain rfl : i = n := by simpa using hi
    refine op_value hon hgn (hn _ _) ?_
    have hb3 : Below w.heap.size { w with drawn := w.drawn + 1 } (({ w with drawn := w.drawn + 1 } : World).alloc (.cells (row m z') T)) := (Below.refl w.heap.size { w with drawn := w.drawn + 1 }).alloc (Nat.le_refl w.heap.size) _
    refine ⟨hb3, wpAnyH_all r2 (by simp) fun j hj => ?_⟩
    obtain rfl : j = c := by simpa using hj
    rw [hdn]
    refine op_call hoc hgc (hc2 _ _) (hcall _ _ w2s hb3) fun w4 hb4 => ?_
    have hb4' : Below w.heap.size { w with drawn := w.drawn + 1 } w4 := hb3.trans (hb4.mono (by simp))
    refine ⟨hb4', ?_⟩
    rw [hdc, Act.put_comm _ _ _ (by simpa using hne)]
    refine fin _ _ _ hb4' (Nat.le_refl _) ?_ r4 r6
    have hnew : Blk (({ w with drawn := w.drawn + 1 } : World).alloc (.cells (row m z') T)) w.heap.size m z' := Blk.new { w with drawn := w.drawn + 1 } _ _ _ _ rfl
    exact hnew.below hb4 (by simp)
end
end BB
end
