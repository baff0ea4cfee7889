/-
  What a node keeps, and when it may vote: over numbers (layer 8). No walk is here.
-/
import Derived.Test.YthajnkcipifhcaaGreatDoorKWRight
import Derived.Test.YthajnkcipifhcaaGreatDoorKPlanN
import Derived.Test.YthajnkcipifhcaaGreatDoorKZMath
import Derived.Test.YthajnkcipifhcaaGreatDoorKWFew
section
open Go Go.RowKit
namespace WW
open BB
/-- the first i signatures are right, and rise -/
def okTo (l : List (Int × List ByteArray)) : Nat → Bool
  | 0 => true
  | i + 1 => okTo l i && (rightSig (l.getD i (0, [])).1 (l.getD i (0, [])).2 && (decide (i = 0) || decide ((l.getD (i - 1) (0, [])).1 < (l.getD i (0, [])).1)))
theorem okTo_mono (l : List (Int × List ByteArray)) (i j : Nat) (h : i ≤ j) (hf : okTo l i = false) : okTo l j = false := by
  induction j with
  | zero => obtain rfl : i = 0 := by omega
            exact hf
  | succ j ih =>
    by_cases e : i = j + 1
    · subst e; exact hf
    · show (okTo l j && _) = false
      rw [ih (by omega), Bool.false_and]
/-- a right certificate -/
def rightCert (v : Int) (k : ByteArray) (l : List (Int × List ByteArray)) : Bool := (decide (0 ≤ v) && decide (v ≤ 1000000) && decide (k.size = 32) && decide (l.length ≤ 7)) && okTo l l.length
/-- the certificate's first fields are wrong, by the first thing that is -/
def BadC (v : Int) (k : ByteArray) (n : Nat) : Prop := v < 0 ∨ 0 ≤ v ∧ ((1000000 : Int) < v ∨ v ≤ 1000000 ∧ (((k.size : Int) != 32) = true ∨ ((k.size : Int) != 32) = false ∧ (7 : Int) < (n : Int)))
theorem cells3 {w w1 : World} {p0 p1 p2 : Nat × Nat} {v0 v1 v2 : Value} (h : w.cell? ⟨p0.1, p0.2, none⟩ = some v0 ∧ w.cell? ⟨p1.1, p1.2, none⟩ = some v1 ∧ w.cell? ⟨p2.1, p2.2, none⟩ = some v2) (hb : Below w.heap.size w w1) :
    w1.cell? ⟨p0.1, p0.2, none⟩ = some v0 ∧ w1.cell? ⟨p1.1, p1.2, none⟩ = some v1 ∧ w1.cell? ⟨p2.1, p2.2, none⟩ = some v2 :=
  ⟨(hb.cell (p := ⟨p0.1, p0.2, none⟩) (World.block_lt_of_cell? w _ h.1)).trans h.1, (hb.cell (p := ⟨p1.1, p1.2, none⟩) (World.block_lt_of_cell? w _ h.2.1)).trans h.2.1, (hb.cell (p := ⟨p2.1, p2.2, none⟩) (World.block_lt_of_cell? w _ h.2.2)).trans h.2.2⟩
end WW
namespace Go.Proofs.YthajnkcipifhcaaGreatDoor
open WW BB
set_option maxRecDepth 100000 in
set_option maxHeartbeats 4000000 in
theorem rightcert_bad (v : Int) (k : ByteArray) (a0 : Option Addr) (n cap : Nat) (w : World) (h : BadC v k n) :
    Calls Tryz.prog 52 #[.agg #[.int .i64 v, .string k, .slice a0 n cap]] w fun e w' => e = .returned (.bool false) ∧ Below w.heap.size w w' := by
  rcases h with h | ⟨h0, h | ⟨h1, h | ⟨h2, h⟩⟩⟩
  all_goals
    go_enter Tryz.func52, Tryz.ntmps52
    go_wp2_with fail
    go_ret
    exact ⟨rfl, (Below.refl _ _).alloc (Nat.le_refl _) _⟩
set_option maxRecDepth 100000 in
set_option maxHeartbeats 8000000 in
theorem rightcert_ok (v : Int) (k : ByteArray) (sv : Value) (l : List (Int × List ByteArray)) (w : World) (hv : SigsAt w sv l) (hn : MemS l) (h0 : 0 ≤ v) (h1 : v ≤ 1000000) (hk : k.size = 32) (h7 : l.length ≤ 7) :
    Calls Tryz.prog 52 #[.agg #[.int .i64 v, .string k, sv]] w fun e w' => e = .returned (.bool (okTo l l.length)) ∧ Below w.heap.size w w' := by
  obtain ⟨X, hX⟩ : ∃ X, okTo l l.length = X := ⟨_, rfl⟩
  rw [hX]
  have HX := Lib.hid hX
  have HV := Lib.hid hv
  have HN := Lib.hid hn
  have H7 := Lib.hid h7
  obtain ⟨a0, cap, rfl, hx⟩ := hv
  have t2 : ((k.size : Int) != 32) = false := by rw [hk]; rfl
  have t3 : (l.length : Int) ≤ 7 := by omega
  clear hn hx hX hk h7
  go_enter Tryz.func52, Tryz.ntmps52
  go_wp2_with fail
  have B0 := box_mk w [.int .i64 v, .string k, .slice a0 l.length cap] 33
  rw [show [Value.int .i64 v, .string k, .slice a0 l.length cap].toArray = #[.int .i64 v, .string k, .slice a0 l.length cap] from rfl] at B0
  obtain ⟨g, hg⟩ : ∃ g, w.heap.size = g := ⟨_, rfl⟩
  rw [hg] at B0 ⊢
  clear hg
  generalize w.alloc (.cells #[.int .i64 v, .string k, .slice a0 l.length cap] 33) = w0 at *
  go_loopw [3] (fun x wr => ∃ i : Nat, i ≤ l.length ∧ x = .int .i64 (i : Int) ∧ okTo l i = true ∧ BoxAt w g [.int .i64 v, .string k, .slice a0 l.length cap] wr) (fun x _ => l.length - (intOf x).toNat)
  case atStart => exact ⟨0, Nat.zero_le _, rfl, rfl, B0⟩
  case round =>
    clear B0
    clear w0
    obtain ⟨i, hi, rfl, hall, hbox⟩ := hrel
    have HALL := Lib.hid hall
    have HBX := Lib.hid hbox
    have i0 : (0 : Int) ≤ (i : Int) := by omega
    have ib : (i : Int) ≤ 7 := by omega
    have c2 := hbox.cell 2 _ rfl
    clear hall hbox
    by_cases hlt : i < l.length
    · have hlt' : (i : Int) < (l.length : Int) := by omega
      obtain ⟨a1, cap1, he, hv | ⟨gb, off, rfl, hbw, hcell⟩⟩ := HV.out
      · rw [hv] at hlt; simp at hlt
      injection he with e1 _ e3
      subst e1 e3
      obtain ⟨tv, hc0, hc1, hts⟩ := hcell i hlt
      have hcl0 := (HBX.out.below.cell (p := ⟨gb, off + i * 2, none⟩) hbw).trans hc0
      have hcl1 := (HBX.out.below.cell (p := ⟨gb, off + i * 2 + 1, none⟩) hbw).trans hc1
      have HTS := Lib.hid (hts.later HBX.out.below)
      have HMi := Lib.hid (HN.out.2 i hlt)
      have hst : okTo l (i + 1) = (okTo l i && (rightSig (l.getD i (0, [])).1 (l.getD i (0, [])).2 && (decide (i = 0) || decide ((l.getD (i - 1) (0, [])).1 < (l.getD i (0, [])).1)))) := rfl
      by_cases hz : i = 0
      · subst hz
        obtain ⟨f, hf⟩ : ∃ f, (l.getD 0 (0, [])).1 = f := ⟨_, rfl⟩
        obtain ⟨ts, ht⟩ : ∃ ts, (l.getD 0 (0, [])).2 = ts := ⟨_, rfl⟩
        rw [hf] at hcl0 hst
        rw [ht] at HTS HMi hst
        have HST := Lib.hid hst
        clear hst
        have HLT := Lib.hid hlt
        obtain ⟨ta, tcap, htv, _⟩ := HTS.out
        subst htv
        rw [show off + 0 * 2 = off by omega] at hcl0 hcl1 hc0 hc1
        rw [hf] at hc0
        rw [ht] at hts
        have HBW := Lib.hid hbw
        have HC0 := Lib.hid hc0
        have HC1 := Lib.hid hc1
        have HTW := Lib.hid hts
        clear hf ht hlt hi hcell hbw hc0 hc1 hts
        have TD := Lib.hid (HTS.out.later (Below.refl wr.heap.size wr).drew)
        have hfacts : ∀ w', BoxAt w g [.int .i64 v, .string k, .slice (some ⟨gb, off, none⟩) l.length cap] w' → w'.cell? ⟨g, 2, none⟩ = some (.slice (some ⟨gb, off, none⟩) l.length cap) ∧ w'.cell? ⟨gb, off, none⟩ = some (.int .i64 f) ∧ w'.cell? ⟨gb, off + 1, none⟩ = some (.slice ta ts.length tcap) ∧ StrsAt w' (.slice ta ts.length tcap) ts := fun w' hS => ⟨hS.cell 2 _ rfl, (hS.below.cell (p := ⟨gb, off, none⟩) HBW.out).trans HC0.out, (hS.below.cell (p := ⟨gb, off + 1, none⟩) HBW.out).trans HC1.out, HTW.out.later hS.below⟩
        have HF := Lib.hid hfacts
        have HBD := Lib.hid (HBX.out.on (Below.refl wr.heap.size wr).drew)
        clear hfacts hcl0 hcl1
        obtain ⟨R, hR⟩ : ∃ R, rightSig f ts = R := ⟨_, rfl⟩
        have HR := Lib.hid hR
        clear hR
        go_wp2_with fail
        refine one_call (a1 := ?a1) [0, 1, 2, 3, 4] [6, 7, 8, 9, 10, 11, 12, 13, 14, 15, 16, 17, 18, 19, 20, 21, 22, 23, 24, 25, 26] 5 _ 36 54 #[.agg #[.int .i64 f, .slice ta ts.length tcap]] (.bool R) (fun w' => BoxAt w g [.int .i64 v, .string k, .slice (some ⟨gb, off, none⟩) l.length cap] w') (by kernel_rfl) (by kernel_rfl) (fun _ _ d _ _ h => by cases d <;> exact h) rfl rfl rfl HBD.out ?hread ?henter ?hcall ?htail
        case hread =>
          simp only [pick, List.filterMap, List.getElem?_toArray, List.getElem?_cons_zero, List.getElem?_cons_succ]
          iterate 5 (refine heldg_run ?_ rfl ?_ ?_; rotate_left; (focus (intro w' hS; obtain ⟨s0, s1, s2, _⟩ := HF.out w' hS; go_simp; exact rfl)); simp only [Act.put, List.setIfInBounds_toArray, List.set_cons_zero, List.set_cons_succ])
          exact rfl
        case henter => intro w'; go_simp
        case hcall =>
          intro w' hS
          refine (rightsig_any f _ ts _ (HF.out w' hS).2.2.2 HMi.out).mono ?_
          rintro e w4 ⟨rfl, hb4⟩
          exact ⟨by rw [HR.out], hS.on hb4⟩
        case htail =>
          simp only [pick, List.filterMap, List.getElem?_toArray, List.getElem?_cons_zero, List.getElem?_cons_succ, Act.put, List.setIfInBounds_toArray, List.set_cons_zero, List.set_cons_succ]
          cases R
          · iterate 21 (first | (refine heldg_skip rfl ?_; simp only [Act.put, List.setIfInBounds_toArray, List.set_cons_zero, List.set_cons_succ]) | (refine heldg_run ?_ rfl ?_ ?_; rotate_left; (focus (intro w' hS; obtain ⟨s0, s1, s2, _⟩ := HF.out w' hS; go_simp; exact rfl)); simp only [Act.put, List.setIfInBounds_toArray, List.set_cons_zero, List.set_cons_succ]))
            refine heldg_nil ?_
            intro w' hS
            have HBZ := Lib.hid hS
            clear hS
            go_wp2_with fail
            go_ret
            refine ⟨?_, HBZ.out.below⟩
            rw [← HX.out, okTo_mono l 1 l.length (by have := HLT.out; omega) (by rw [show 1 = 0 + 1 from rfl, HST.out, HR.out]; simp)]
            rfl
          · iterate 21 (first | (refine heldg_skip rfl ?_; simp only [Act.put, List.setIfInBounds_toArray, List.set_cons_zero, List.set_cons_succ]) | (refine heldg_run ?_ rfl ?_ ?_; rotate_left; (focus (intro w' hS; obtain ⟨s0, s1, s2, _⟩ := HF.out w' hS; go_simp; exact rfl)); simp only [Act.put, List.setIfInBounds_toArray, List.set_cons_zero, List.set_cons_succ]))
            refine heldg_nil ?_
            intro w' hS
            have HBZ := Lib.hid hS
            clear hS
            go_wp2_with fail
            go_roundw
            case rel => exact ⟨1, by have := HLT.out; omega, by go_num, by rw [show 1 = 0 + 1 from rfl, HST.out, HALL.out, HR.out]; simp, HBZ.out⟩
            case measure => have := HLT.out; simp [intOf]; omega
      · obtain ⟨m, rfl⟩ : ∃ m, i = m + 1 := ⟨i - 1, by omega⟩
        obtain ⟨pv, pc0, -, -⟩ := hcell m (by omega)
        rw [show m + 1 - 1 = m by omega] at hst
        obtain ⟨f, hf⟩ : ∃ f, (l.getD (m + 1) (0, [])).1 = f := ⟨_, rfl⟩
        obtain ⟨fp, hfp⟩ : ∃ f, (l.getD m (0, [])).1 = f := ⟨_, rfl⟩
        obtain ⟨ts, ht⟩ : ∃ ts, (l.getD (m + 1) (0, [])).2 = ts := ⟨_, rfl⟩
        rw [hf] at hc0 hst
        rw [hfp] at pc0 hst
        rw [ht] at hts HTS HMi hst
        have HST := Lib.hid hst
        have HLT := Lib.hid hlt
        obtain ⟨ta, tcap, htv, _⟩ := HTS.out
        subst htv
        have HBW := Lib.hid hbw
        have HC0 := Lib.hid hc0
        have HC1 := Lib.hid hc1
        have HP0 := Lib.hid pc0
        have HTW := Lib.hid hts
        have m1 : (m : Int) + 1 ≤ 7 := by omega
        have m0 : (0 : Int) ≤ (m : Int) := by omega
        have mlt : (m : Int) + 1 < (l.length : Int) := by omega
        have mlt' : (m : Int) < (l.length : Int) := by omega
        have mnz : (0 : Int) < (m : Int) + 1 := by omega
        have MW := Lib.hid (show IntKind.i64.wrap (m : Int) = (m : Int) by rw [IntKind.wrap_i64]; omega)
        have mnn : (0 : Int) ≤ (m : Int) + 1 := by omega
        clear hf hfp ht hlt hi hcell hbw hc0 hc1 hts hst pc0 hz hcl0 hcl1 i0 ib hlt'
        have TD := Lib.hid (HTS.out.later (Below.refl wr.heap.size wr).drew)
        have hfacts : ∀ w', BoxAt w g [.int .i64 v, .string k, .slice (some ⟨gb, off, none⟩) l.length cap] w' → w'.cell? ⟨g, 2, none⟩ = some (.slice (some ⟨gb, off, none⟩) l.length cap) ∧ w'.cell? ⟨gb, off + (m + 1) * 2, none⟩ = some (.int .i64 f) ∧ w'.cell? ⟨gb, off + (m + 1) * 2 + 1, none⟩ = some (.slice ta ts.length tcap) ∧ w'.cell? ⟨gb, off + m * 2, none⟩ = some (.int .i64 fp) ∧ StrsAt w' (.slice ta ts.length tcap) ts := fun w' hS => ⟨hS.cell 2 _ rfl, (hS.below.cell (p := ⟨gb, off + (m + 1) * 2, none⟩) HBW.out).trans HC0.out, (hS.below.cell (p := ⟨gb, off + (m + 1) * 2 + 1, none⟩) HBW.out).trans HC1.out, (hS.below.cell (p := ⟨gb, off + m * 2, none⟩) HBW.out).trans HP0.out, HTW.out.later hS.below⟩
        have HF := Lib.hid hfacts
        have HBD := Lib.hid (HBX.out.on (Below.refl wr.heap.size wr).drew)
        clear hfacts
        obtain ⟨R, hR⟩ : ∃ R, rightSig f ts = R := ⟨_, rfl⟩
        have HR := Lib.hid hR
        clear hR
        go_wp2_with fail
        refine one_call (a1 := ?a2) [0, 1, 2, 3, 4] [6, 7, 8, 9, 10, 11, 12, 13, 14, 15, 16, 17, 18, 19, 20, 21, 22, 23, 24, 25, 26] 5 _ 36 54 #[.agg #[.int .i64 f, .slice ta ts.length tcap]] (.bool R) (fun w' => BoxAt w g [.int .i64 v, .string k, .slice (some ⟨gb, off, none⟩) l.length cap] w') (by kernel_rfl) (by kernel_rfl) (fun _ _ d _ _ h => by cases d <;> exact h) rfl rfl rfl HBD.out ?hread ?henter ?hcall ?htail
        case hread =>
          simp only [pick, List.filterMap, List.getElem?_toArray, List.getElem?_cons_zero, List.getElem?_cons_succ]
          iterate 5 (refine heldg_run ?_ rfl ?_ ?_; rotate_left; (focus (intro w' hS; obtain ⟨s0, s1, s2, s3, _⟩ := HF.out w' hS; have mw := MW.out; go_simp; exact rfl)); simp only [Act.put, List.setIfInBounds_toArray, List.set_cons_zero, List.set_cons_succ])
          exact rfl
        case henter => intro w'; go_simp
        case hcall =>
          intro w' hS
          refine (rightsig_any f _ ts _ (HF.out w' hS).2.2.2.2 HMi.out).mono ?_
          rintro e w4 ⟨rfl, hb4⟩
          exact ⟨by rw [HR.out], hS.on hb4⟩
        case htail =>
          simp only [pick, List.filterMap, List.getElem?_toArray, List.getElem?_cons_zero, List.getElem?_cons_succ, Act.put, List.setIfInBounds_toArray, List.set_cons_zero, List.set_cons_succ]
          cases R
          · iterate 21 (first | (refine heldg_skip rfl ?_; simp only [Act.put, List.setIfInBounds_toArray, List.set_cons_zero, List.set_cons_succ]) | (refine heldg_run ?_ rfl ?_ ?_; rotate_left; (focus (intro w' hS; obtain ⟨s0, s1, s2, s3, _⟩ := HF.out w' hS; have mw := MW.out; go_simp; exact rfl)); simp only [Act.put, List.setIfInBounds_toArray, List.set_cons_zero, List.set_cons_succ]))
            refine heldg_nil ?_
            intro w' hS
            have HBZ := Lib.hid hS
            clear hS
            go_wp2_with fail
            go_ret
            refine ⟨?_, HBZ.out.below⟩
            rw [← HX.out, okTo_mono l (m + 1 + 1) l.length (by have := HLT.out; omega) (by rw [HST.out, HR.out]; simp)]
            rfl
          · by_cases hff : fp < f
            · have hd : decide (f ≤ fp) = false := by simp; omega
              iterate 21 (first | (refine heldg_skip rfl ?_; simp only [Act.put, List.setIfInBounds_toArray, List.set_cons_zero, List.set_cons_succ]) | (refine heldg_run ?_ rfl ?_ ?_; rotate_left; (focus (intro w' hS; obtain ⟨s0, s1, s2, s3, _⟩ := HF.out w' hS; have mw := MW.out; go_simp; exact rfl)); simp only [Act.put, List.setIfInBounds_toArray, List.set_cons_zero, List.set_cons_succ]))
              refine heldg_nil ?_
              intro w' hS
              have HBZ := Lib.hid hS
              have HFF := Lib.hid hff
              clear hS hff
              go_wp2_with fail
              go_roundw
              case rel => exact ⟨m + 1 + 1, by have := HLT.out; omega, by go_num, by rw [HST.out, HALL.out, HR.out]; simp [HFF.out], HBZ.out⟩
              case measure => have := HLT.out; simp [intOf]; omega
            · have hd : decide (f ≤ fp) = true := by simp; omega
              iterate 21 (first | (refine heldg_skip rfl ?_; simp only [Act.put, List.setIfInBounds_toArray, List.set_cons_zero, List.set_cons_succ]) | (refine heldg_run ?_ rfl ?_ ?_; rotate_left; (focus (intro w' hS; obtain ⟨s0, s1, s2, s3, _⟩ := HF.out w' hS; have mw := MW.out; go_simp; exact rfl)); simp only [Act.put, List.setIfInBounds_toArray, List.set_cons_zero, List.set_cons_succ]))
              refine heldg_nil ?_
              intro w' hS
              have HBZ := Lib.hid hS
              have HFF := Lib.hid hff
              clear hS hff
              go_wp2_with fail
              go_ret
              refine ⟨?_, HBZ.out.below⟩
              rw [← HX.out, okTo_mono l (m + 1 + 1) l.length (by have := HLT.out; omega) (by rw [HST.out, HR.out]; simp [HFF.out])]
              rfl
    · obtain rfl : i = l.length := by omega
      have hlt' : ¬ (l.length : Int) < (l.length : Int) := by omega
      clear hlt hi
      go_wp2_with fail
      go_ret
      exact ⟨by rw [← HX.out, HALL.out]; rfl, HBX.out.below⟩
theorem rightcert_any (v : Int) (k : ByteArray) (sv : Value) (l : List (Int × List ByteArray)) (w : World) (hv : SigsAt w sv l) (hn : MemS l) :
    Calls Tryz.prog 52 #[.agg #[.int .i64 v, .string k, sv]] w fun e w' => e = .returned (.bool (rightCert v k l)) ∧ Below w.heap.size w w' := by
  by_cases hb : BadC v k l.length
  · obtain ⟨a0, cap, rfl, _⟩ := hv
    refine (rightcert_bad v k a0 l.length cap w hb).mono ?_
    rintro e w' ⟨rfl, h⟩
    refine ⟨?_, h⟩
    rw [show rightCert v k l = false from ?_]
    unfold rightCert
    rcases hb with h | ⟨h0, h | ⟨h1, h | ⟨h2, h⟩⟩⟩
    · rw [show decide (0 ≤ v) = false by simp; omega]; simp
    · rw [show decide (v ≤ 1000000) = false by simp; omega]; simp
    · rw [show decide (k.size = 32) = false by rw [bne_iff_ne] at h; simp; omega]; simp
    · rw [show decide (l.length ≤ 7) = false by simp; omega]; simp
  · have h0 : 0 ≤ v := by
      apply Classical.byContradiction; intro h; exact hb (Or.inl (by omega))
    have h1 : v ≤ 1000000 := by
      apply Classical.byContradiction; intro h; exact hb (Or.inr ⟨h0, Or.inl (by omega)⟩)
    have hk : k.size = 32 := by
      apply Classical.byContradiction; intro h; exact hb (Or.inr ⟨h0, Or.inr ⟨h1, Or.inl (by rw [bne_iff_ne]; omega)⟩⟩)
    have h7 : l.length ≤ 7 := by
      apply Classical.byContradiction; intro h; exact hb (Or.inr ⟨h0, Or.inr ⟨h1, Or.inr ⟨by rw [hk]; rfl, by omega⟩⟩⟩)
    refine (rightcert_ok v k sv l w hv hn h0 h1 hk h7).mono ?_
    rintro e w' ⟨rfl, h⟩
    refine ⟨?_, h⟩
    unfold rightCert
    simp [h0, h1, hk, h7]
end Go.Proofs.YthajnkcipifhcaaGreatDoor
end
section
open Go Go.RowKit
namespace WW
open BB
instance (c q : Int) (s : ByteArray) : Decidable (rightR c q s) := by unfold rightR; infer_instance
/-- a right block -/
def rightBlock (v p cv : Int) (k : ByteArray) (l : List (Int × List ByteArray)) (m : List (Int × Int × ByteArray)) : Bool :=
  (decide (1 ≤ v) && (decide (v ≤ 1000000) && (decide (0 ≤ p) && (decide (p ≤ 6) && (rightCert cv k l && (decide (cv < v) && decide (m.length ≤ 3))))))) && m.all (fun r => decide (rightR r.1 r.2.1 r.2.2))
/-- the block's first fields are wrong, by the first thing that is -/
def BadB (v p : Int) : Prop := v < 1 ∨ 1 ≤ v ∧ ((1000000 : Int) < v ∨ v ≤ 1000000 ∧ (p < 0 ∨ 0 ≤ p ∧ 6 < p))
end WW
namespace Go.Proofs.YthajnkcipifhcaaGreatDoor
open WW BB
theorem rightreq_any (c q : Int) (s : ByteArray) (w : World) :
    Calls Tryz.prog 55 #[.agg #[.int .i64 c, .int .i64 q, .string s]] w fun e w' => e = .returned (.bool (decide (rightR c q s))) ∧ Below w.heap.size w w' := by
  by_cases h : rightR c q s
  · refine (right_yes c q s h w).mono ?_
    rintro e w' ⟨rfl, hb⟩
    exact ⟨by rw [decide_eq_true h], hb⟩
  · refine (right_no c q s (wrong_of h) w).mono ?_
    rintro e w' ⟨rfl, hb⟩
    exact ⟨by rw [decide_eq_false h], hb⟩
set_option maxRecDepth 100000 in
set_option maxHeartbeats 4000000 in
theorem rightblock_bad (v p cv : Int) (k : ByteArray) (sv rv : Value) (w : World) (h : BadB v p) :
    Calls Tryz.prog 50 #[.agg #[.int .i64 v, .int .i64 p, .int .i64 cv, .string k, sv, rv]] w fun e w' => e = .returned (.bool false) ∧ Below w.heap.size w w' := by
  rcases h with h | ⟨h0, h | ⟨h1, h | ⟨h2, h⟩⟩⟩
  all_goals
    go_enter Tryz.func50, Tryz.ntmps50
    go_wp2_with fail
    go_ret
    exact ⟨rfl, (Below.refl _ _).alloc (Nat.le_refl _) _⟩
set_option maxRecDepth 100000 in
set_option maxHeartbeats 4000000 in
theorem rightblock_ok (v p cv : Int) (k : ByteArray) (sv rv : Value) (l : List (Int × List ByteArray)) (m : List (Int × Int × ByteArray)) (w : World) (hv : SigsAt w sv l) (hr : ReqsAt w rv m) (hn : MemS l) (h0 : 1 ≤ v) (h1 : v ≤ 1000000) (h2 : 0 ≤ p) (h3 : p ≤ 6) :
    Calls Tryz.prog 50 #[.agg #[.int .i64 v, .int .i64 p, .int .i64 cv, .string k, sv, rv]] w fun e w' => e = .returned (.bool ((rightCert cv k l && (decide (cv < v) && decide (m.length ≤ 3))) && m.all (fun r => decide (rightR r.1 r.2.1 r.2.2)))) ∧ Below w.heap.size w w' := by
  obtain ⟨X, hX⟩ : ∃ X, ((rightCert cv k l && (decide (cv < v) && decide (m.length ≤ 3))) && m.all (fun r => decide (rightR r.1 r.2.1 r.2.2))) = X := ⟨_, rfl⟩
  rw [hX]
  have HX := Lib.hid hX
  have HV := Lib.hid hv
  have HN := Lib.hid hn
  have HR := Lib.hid hr
  obtain ⟨a0, cap, rfl, hx⟩ := hv
  obtain ⟨a1, cap1, rfl, hx1⟩ := hr
  clear hn hx hX hx1
  go_enter Tryz.func50, Tryz.ntmps50
  go_wp2_with fail
  have B0 := box_mk w [.int .i64 v, .int .i64 p, .int .i64 cv, .string k, .slice a0 l.length cap, .slice a1 m.length cap1] 36
  rw [show [Value.int .i64 v, .int .i64 p, .int .i64 cv, .string k, .slice a0 l.length cap, .slice a1 m.length cap1].toArray = #[.int .i64 v, .int .i64 p, .int .i64 cv, .string k, .slice a0 l.length cap, .slice a1 m.length cap1] from rfl] at B0
  obtain ⟨g, hg⟩ : ∃ g, w.heap.size = g := ⟨_, rfl⟩
  rw [hg] at B0 ⊢
  clear hg
  generalize w.alloc (.cells #[.int .i64 v, .int .i64 p, .int .i64 cv, .string k, .slice a0 l.length cap, .slice a1 m.length cap1] 36) = w0 at *
  refine (rightcert_any cv k _ l w0 (HV.out.later B0.below) HN.out).mono ?_
  rintro e w1 ⟨rfl, hb1⟩
  have B1 := B0.on hb1
  have HB1 := Lib.hid B1
  clear B0 hb1
  have c0 := B1.cell 0 _ rfl
  have c2 := B1.cell 2 _ rfl
  have c3 := B1.cell 3 _ rfl
  have c4 := B1.cell 4 _ rfl
  have c5 := B1.cell 5 _ rfl
  clear B1
  rcases hC : rightCert cv k l with _ | _
  · rw [hC] at HX
    have HC := Lib.hid hC
    clear hC
    go_wp2_with fail
    go_ret
    exact ⟨by rw [← HX.out]; rfl, HB1.out.below⟩
  rw [hC] at HX
  have HC := Lib.hid hC
  clear hC
  by_cases hcv : cv < v
  · have hcv' : ¬ v ≤ cv := by omega
    by_cases hm3 : m.length ≤ 3
    · have hm3' : ¬ (3 : Int) < (m.length : Int) := by omega
      have hX2 : X = m.all (fun r => decide (rightR r.1 r.2.1 r.2.2)) := by rw [← HX.out]; simp [hcv, hm3]
      have HX2 := Lib.hid hX2
      have HM3 := Lib.hid hm3
      clear hm3 hX2
      go_wp2_with fail
      go_loopw [3] (fun x wr => ∃ i : Nat, i ≤ m.length ∧ x = .int .i64 (i : Int) ∧ (m.take i).all (fun r => decide (rightR r.1 r.2.1 r.2.2)) = true ∧ BoxAt w g [.int .i64 v, .int .i64 p, .int .i64 cv, .string k, .slice a0 l.length cap, .slice a1 m.length cap1] wr) (fun x _ => m.length - (intOf x).toNat)
      case atStart => exact ⟨0, Nat.zero_le _, rfl, rfl, HB1.out⟩
      case round =>
        clear HB1 c0 c2 c3 c4 c5
        clear w1
        obtain ⟨i, hi, rfl, hall, hbox⟩ := hrel
        have HALL := Lib.hid hall
        have HBX := Lib.hid hbox
        have i0 : (0 : Int) ≤ (i : Int) := by omega
        have ib : (i : Int) ≤ 3 := by omega
        have c5 := hbox.cell 5 _ rfl
        clear hall hbox
        by_cases hlt : i < m.length
        · have hlt' : (i : Int) < (m.length : Int) := by omega
          obtain ⟨a2, cap2, he, hv | ⟨gb, off, rfl, hbw, hcell⟩⟩ := HR.out
          · rw [hv] at hlt; simp at hlt
          injection he with e1 _ e3
          subst e1 e3
          obtain ⟨hc0, hc1, hc2⟩ := hcell i hlt
          have hcl0 := (HBX.out.below.cell (p := ⟨gb, off + i * 3, none⟩) hbw).trans hc0
          have hcl1 := (HBX.out.below.cell (p := ⟨gb, off + i * 3 + 1, none⟩) hbw).trans hc1
          have hcl2 := (HBX.out.below.cell (p := ⟨gb, off + i * 3 + 2, none⟩) hbw).trans hc2
          have HSN := Lib.hid (all_take_snoc (fun r : Int × Int × ByteArray => decide (rightR r.1 r.2.1 r.2.2)) m (0, 0, ⟨#[]⟩) i hlt)
          obtain ⟨s, hs⟩ : ∃ s, (m.getD i (0, 0, ⟨#[]⟩)) = s := ⟨_, rfl⟩
          rw [hs] at hcl0 hcl1 hcl2 HSN
          obtain ⟨rc, rq, rs⟩ := s
          have HLT := Lib.hid hlt
          clear hs hlt hi hcell hbw hc0 hc1 hc2
          go_wp2_with fail
          refine (rightreq_any rc rq rs wr).mono ?_
          rintro e w4 ⟨rfl, hb4⟩
          have HB4 := Lib.hid (HBX.out.on hb4)
          clear hb4
          by_cases hq : rightR rc rq rs
          · rw [decide_eq_true hq]
            have HQ := Lib.hid hq
            clear hq
            go_wp2_with fail
            go_roundw
            case rel => exact ⟨i + 1, by have := HLT.out; omega, by go_num, by rw [HSN.out, HALL.out]; simpa using HQ.out, HB4.out⟩
            case measure => have := HLT.out; simp [intOf]; omega
          · rw [decide_eq_false hq]
            have HQ := Lib.hid hq
            clear hq
            go_wp2_with fail
            go_ret
            refine ⟨?_, HB4.out.below⟩
            have h1 := HSN.out
            rw [show decide (rightR rc rq rs) = false by simpa using HQ.out, Bool.and_false] at h1
            have h2 := all_take_mono _ m (i + 1) m.length (by have := HLT.out; omega) h1
            rw [List.take_length] at h2
            rw [HX2.out, h2]; rfl
        · obtain rfl : i = m.length := by omega
          have hlt' : ¬ (m.length : Int) < (m.length : Int) := by omega
          rw [List.take_length] at HALL
          clear hlt hi
          go_wp2_with fail
          go_ret
          exact ⟨by rw [HX2.out, HALL.out]; rfl, HBX.out.below⟩
    · have hm3' : (3 : Int) < (m.length : Int) := by omega
      have hX2 : X = false := by rw [← HX.out]; simp [hm3]
      have HX2 := Lib.hid hX2
      clear hm3 hX2
      go_wp2_with fail
      go_ret
      exact ⟨by rw [HX2.out]; rfl, HB1.out.below⟩
  · have hcv' : v ≤ cv := by omega
    have hX2 : X = false := by rw [← HX.out]; simp [hcv]
    have HX2 := Lib.hid hX2
    clear hX2 hcv
    go_wp2_with fail
    go_ret
    exact ⟨by rw [HX2.out]; rfl, HB1.out.below⟩
theorem rightblock_any (v p cv : Int) (k : ByteArray) (sv rv : Value) (l : List (Int × List ByteArray)) (m : List (Int × Int × ByteArray)) (w : World) (hv : SigsAt w sv l) (hr : ReqsAt w rv m) (hn : MemS l) :
    Calls Tryz.prog 50 #[.agg #[.int .i64 v, .int .i64 p, .int .i64 cv, .string k, sv, rv]] w fun e w' => e = .returned (.bool (rightBlock v p cv k l m)) ∧ Below w.heap.size w w' := by
  by_cases hb : BadB v p
  · refine (rightblock_bad v p cv k sv rv w hb).mono ?_
    rintro e w' ⟨rfl, h⟩
    refine ⟨?_, h⟩
    rw [show rightBlock v p cv k l m = false from ?_]
    unfold rightBlock
    rcases hb with h | ⟨h0, h | ⟨h1, h | ⟨h2, h⟩⟩⟩
    · rw [show decide (1 ≤ v) = false by simp; omega]; simp
    · rw [show decide (v ≤ 1000000) = false by simp; omega]; simp
    · rw [show decide (0 ≤ p) = false by simp; omega]; simp
    · rw [show decide (p ≤ 6) = false by simp; omega]; simp
  · have hg : 1 ≤ v ∧ v ≤ 1000000 ∧ 0 ≤ p ∧ p ≤ 6 := by unfold BadB at hb; omega
    obtain ⟨h0, h1, h2, h3⟩ := hg
    refine (rightblock_ok v p cv k sv rv l m w hv hr hn h0 h1 h2 h3).mono ?_
    rintro e w' ⟨rfl, h⟩
    refine ⟨?_, h⟩
    unfold rightBlock
    simp [h0, h1, h2, h3]
end Go.Proofs.YthajnkcipifhcaaGreatDoor
end
section
open Go Go.RowKit
namespace WW
open BB
/-- what cuts off a thing reads just what is written of right ones -/
structure Codec {α : Type} (Sp : ByteArray → Option (ByteArray × α)) (enc : α → ByteArray) (ok : α → Prop) : Prop where
  put : ∀ a r, ok a → Sp (enc a ++ r) = some (r, a)
  sound : ∀ b r a, Sp b = some (r, a) → b = enc a ++ r ∧ ok a
section
variable {α β : Type} {A : ByteArray → Option (ByteArray × α)} {B : ByteArray → Option (ByteArray × β)} {ea : α → ByteArray} {eb : β → ByteArray} {oa : α → Prop} {ob : β → Prop}
theorem Codec.inj (h : Codec A ea oa) {x y : α} (hx : oa x) (hy : oa y) (he : ea x = ea y) : x = y := by
  have h1 := h.put x ⟨#[]⟩ hx
  have h2 := h.put y ⟨#[]⟩ hy
  rw [he, h2] at h1
  simp only [Option.some.injEq, Prod.mk.injEq] at h1
  exact h1.2.symm
theorem Codec.size (h : Codec A ea oa) {b r : ByteArray} {a : α} (hb : A b = some (r, a)) : r.size ≤ b.size := by
  obtain ⟨e, _⟩ := h.sound b r a hb
  rw [e, ByteArray.size_append]; omega
/-- one behind the other -/
def seqSp (A : ByteArray → Option (ByteArray × α)) (B : ByteArray → Option (ByteArray × β)) (b : ByteArray) : Option (ByteArray × (α × β)) :=
  match A b with
  | none => none
  | some (r, x) => match B r with
    | none => none
    | some (r', y) => some (r', (x, y))
theorem seq_some {b r r' : ByteArray} {x : α} {y : β} (h1 : A b = some (r, x)) (h2 : B r = some (r', y)) : seqSp A B b = some (r', (x, y)) := by
  unfold seqSp; rw [h1]; dsimp only; rw [h2]
theorem seq_none1 {b : ByteArray} (h1 : A b = none) : seqSp A B b = none := by unfold seqSp; rw [h1]
theorem seq_none2 {b r : ByteArray} {x : α} (h1 : A b = some (r, x)) (h2 : B r = none) : seqSp A B b = none := by unfold seqSp; rw [h1]; dsimp only; rw [h2]
theorem seq_inv {b r' : ByteArray} {x : α} {y : β} (h : seqSp A B b = some (r', (x, y))) : ∃ r, A b = some (r, x) ∧ B r = some (r', y) := by
  unfold seqSp at h
  rcases h1 : A b with _ | ⟨r, x1⟩
  · rw [h1] at h; cases h
  rw [h1] at h
  dsimp only at h
  rcases h2 : B r with _ | ⟨r2, y2⟩
  · rw [h2] at h; cases h
  rw [h2] at h
  simp only [Option.some.injEq, Prod.mk.injEq] at h
  obtain ⟨rfl, rfl, rfl⟩ := h
  exact ⟨r, rfl, h2⟩
theorem Codec.seq (ha : Codec A ea oa) (hb : Codec B eb ob) : Codec (seqSp A B) (fun p => ea p.1 ++ eb p.2) (fun p => oa p.1 ∧ ob p.2) where
  put := fun ⟨x, y⟩ r ⟨h1, h2⟩ => by
    refine seq_some (r := eb y ++ r) ?_ (hb.put y r h2)
    show A (ea x ++ eb y ++ r) = _
    rw [ByteArray.append_assoc]; exact ha.put x _ h1
  sound := fun b r ⟨x, y⟩ h => by
    obtain ⟨r1, h1, h2⟩ := seq_inv h
    obtain ⟨e1, o1⟩ := ha.sound _ _ _ h1
    obtain ⟨e2, o2⟩ := hb.sound _ _ _ h2
    exact ⟨by show b = ea x ++ eb y ++ r; rw [e1, e2, ByteArray.append_assoc], o1, o2⟩
/-- what holds of it, too -/
def filtSp (A : ByteArray → Option (ByteArray × α)) (p : α → Bool) (b : ByteArray) : Option (ByteArray × α) :=
  match A b with
  | none => none
  | some (r, x) => if p x then some (r, x) else none
theorem filt_some {p : α → Bool} {b r : ByteArray} {x : α} (h1 : A b = some (r, x)) : filtSp A p b = if p x = true then some (r, x) else none := by unfold filtSp; rw [h1]
theorem filt_none {p : α → Bool} {b : ByteArray} (h1 : A b = none) : filtSp A p b = none := by unfold filtSp; rw [h1]
theorem filt_inv {p : α → Bool} {b r : ByteArray} {x : α} (h : filtSp A p b = some (r, x)) : A b = some (r, x) ∧ p x = true := by
  unfold filtSp at h
  rcases h1 : A b with _ | ⟨r1, x1⟩
  · rw [h1] at h; cases h
  rw [h1] at h
  dsimp only at h
  split at h
  · rename_i hp
    simp only [Option.some.injEq, Prod.mk.injEq] at h
    obtain ⟨rfl, rfl⟩ := h
    exact ⟨rfl, hp⟩
  · cases h
theorem Codec.filt (ha : Codec A ea oa) (p : α → Bool) : Codec (filtSp A p) ea (fun x => oa x ∧ p x = true) where
  put := fun x r ⟨h1, h2⟩ => by rw [filt_some (ha.put x r h1), if_pos h2]
  sound := fun b r x h => by
    obtain ⟨h1, h2⟩ := filt_inv h
    obtain ⟨e, o⟩ := ha.sound _ _ _ h1
    exact ⟨e, o, h2⟩
/-- what is read is told by another thing -/
def mapSp (g : α → β) (A : ByteArray → Option (ByteArray × α)) (b : ByteArray) : Option (ByteArray × β) :=
  match A b with
  | none => none
  | some (r, x) => some (r, g x)
theorem map_some {g : α → β} {b r : ByteArray} {x : α} (h : A b = some (r, x)) : mapSp g A b = some (r, g x) := by unfold mapSp; rw [h]
theorem map_none {g : α → β} {b : ByteArray} (h : A b = none) : mapSp g A b = none := by unfold mapSp; rw [h]
theorem map_inv {g : α → β} {b r : ByteArray} {y : β} (h : mapSp g A b = some (r, y)) : ∃ x, A b = some (r, x) ∧ y = g x := by
  unfold mapSp at h
  rcases h1 : A b with _ | ⟨r1, x1⟩
  · rw [h1] at h; cases h
  rw [h1] at h
  simp only [Option.some.injEq, Prod.mk.injEq] at h
  obtain ⟨rfl, rfl⟩ := h
  exact ⟨x1, rfl, rfl⟩
theorem Codec.map (ha : Codec A ea oa) (g : α → β) (eb : β → ByteArray) (ob : β → Prop) (he : ∀ x, oa x → eb (g x) = ea x) (ho : ∀ x, oa x → ob (g x)) (hs : ∀ y, ob y → ∃ x, oa x ∧ g x = y) : Codec (mapSp g A) eb ob where
  put := fun y r h => by
    obtain ⟨x, hx, rfl⟩ := hs y h
    rw [he x hx]; exact map_some (ha.put x r hx)
  sound := fun b r y h => by
    obtain ⟨x, h1, rfl⟩ := map_inv h
    obtain ⟨e, o⟩ := ha.sound _ _ _ h1
    exact ⟨by rw [he x o]; exact e, ho x o⟩
/-- n of them -/
def repSp (A : ByteArray → Option (ByteArray × α)) : Nat → ByteArray → Option (ByteArray × List α)
  | 0, b => some (b, [])
  | n + 1, b => match A b with
    | none => none
    | some (r, x) => match repSp A n r with
      | none => none
      | some (r', l) => some (r', x :: l)
def catB (xs : List ByteArray) : ByteArray := ⟨(flat xs).toArray⟩
theorem catB_cons (x : ByteArray) (xs : List ByteArray) : catB (x :: xs) = x ++ catB xs := by
  apply ba_ext; rw [ByteArray.data_append, Array.toList_append]; simp [catB, flat]
theorem listB_cat (xs : List ByteArray) : listB xs = be4 xs.length ++ catB xs := by
  apply ba_ext; rw [ByteArray.data_append, Array.toList_append]; simp [catB, listB, listL]
theorem Codec.rep (ha : Codec A ea oa) : ∀ n, Codec (repSp A n) (fun l => catB (l.map ea)) (fun l => l.length = n ∧ ∀ x ∈ l, oa x)
  | 0 => ⟨fun l r h => by
      obtain ⟨h, _⟩ := h
      rw [List.length_eq_zero_iff] at h
      subst h
      show some (catB [] ++ r, []) = _
      rw [show catB [] ++ r = r from ba_ext (by rw [ByteArray.data_append, Array.toList_append]; simp [catB, flat])],
    fun b r l h => by
      have h : some (b, ([] : List α)) = some (r, l) := h
      simp only [Option.some.injEq, Prod.mk.injEq] at h
      obtain ⟨rfl, rfl⟩ := h
      exact ⟨by apply ba_ext; rw [ByteArray.data_append, Array.toList_append]; simp [catB, flat], rfl, by simp⟩⟩
  | n + 1 => ⟨fun l r h => by
      obtain ⟨hn, ho⟩ := h
      match l, hn with
      | x :: l, hn =>
        have ih := (Codec.rep ha n).put l r ⟨by simpa using hn, fun y hy => ho y (List.mem_cons_of_mem _ hy)⟩
        have h1 := ha.put x (catB (l.map ea) ++ r) (ho x (List.mem_cons_self ..))
        rw [List.map_cons, catB_cons, ByteArray.append_assoc]
        unfold repSp
        rw [h1]
        dsimp only
        rw [ih],
    fun b r l h => by
      unfold repSp at h
      rcases h1 : A b with _ | ⟨r1, x⟩
      · rw [h1] at h; cases h
      rw [h1] at h
      dsimp only at h
      rcases h2 : repSp A n r1 with _ | ⟨r2, l2⟩
      · rw [h2] at h; cases h
      rw [h2] at h
      simp only [Option.some.injEq, Prod.mk.injEq] at h
      obtain ⟨rfl, rfl⟩ := h
      obtain ⟨e1, o1⟩ := ha.sound _ _ _ h1
      obtain ⟨e2, o2, o3⟩ := (Codec.rep ha n).sound _ _ _ h2
      refine ⟨by rw [List.map_cons, catB_cons, ByteArray.append_assoc, e1, e2], by simp [o2], fun y hy => ?_⟩
      rcases List.mem_cons.1 hy with rfl | hy
      · exact o1
      · exact o3 y hy⟩
/-- how many there are, and each of them -/
def countSp (most : Int) (A : ByteArray → Option (ByteArray × α)) (b : ByteArray) : Option (ByteArray × List α) :=
  match numSp 0 most b with
  | none => none
  | some (r, N) => repSp A N r
theorem count_some {most : Int} {b r : ByteArray} {N : Nat} (h : numSp 0 most b = some (r, N)) : countSp most A b = repSp A N r := by unfold countSp; rw [h]
theorem count_none {most : Int} {b : ByteArray} (h : numSp 0 most b = none) : countSp most A b = none := by unfold countSp; rw [h]
theorem Codec.count (ha : Codec A ea oa) (most : Nat) (hm : most ≤ 2147483647) : Codec (countSp (most : Int) A) (fun l => listB (l.map ea)) (fun l => l.length ≤ most ∧ ∀ x ∈ l, oa x) where
  put := fun l r ⟨h1, h2⟩ => by
    rw [listB_cat, ByteArray.append_assoc, List.length_map]
    have e : numSp 0 (most : Int) (be4 l.length ++ (catB (l.map ea) ++ r)) = some (catB (l.map ea) ++ r, l.length) := by rw [numSp_put _ _ _ (by omega), if_neg (by omega)]
    rw [count_some e]
    exact (ha.rep l.length).put l r ⟨rfl, h2⟩
  sound := fun b r l h => by
    unfold countSp at h
    rcases h1 : numSp 0 (most : Int) b with _ | ⟨r1, N⟩
    · rw [h1] at h; cases h
    rw [h1] at h
    dsimp only at h
    obtain ⟨e1, _, e3⟩ := numSp_sound h1
    obtain ⟨e2, o2, o3⟩ := (ha.rep N).sound _ _ _ h
    refine ⟨?_, by omega, o3⟩
    rw [listB_cat, List.length_map, o2, ByteArray.append_assoc, e1, e2]
end
theorem codec_num0 (lo hi : Int) (h1 : hi ≤ 2147483647) : Codec (numSp lo hi) be4 (fun n => lo ≤ (n : Int) ∧ (n : Int) ≤ hi) where
  put := fun n r h => by rw [numSp_put _ _ _ (by omega), if_neg (by omega)]
  sound := fun b r n h => by
    obtain ⟨e, h1, h2⟩ := numSp_sound h
    exact ⟨e, h1, h2⟩
/-- a number -/
def numI (lo hi : Int) : ByteArray → Option (ByteArray × Int) := mapSp (fun n : Nat => (n : Int)) (numSp lo hi)
theorem codec_num (lo hi : Int) (h0 : 0 ≤ lo) (h1 : hi ≤ 2147483647) : Codec (numI lo hi) num (fun n => lo ≤ n ∧ n ≤ hi) :=
  (codec_num0 lo hi h1).map _ num _ (fun x h => num_nat x (by omega)) (fun x h => h) (fun y h => ⟨y.toNat, by omega, by omega⟩)
theorem codec_bytes (n : Nat) : Codec (bytesSp n) (fun s => s) (fun s => s.size = n) where
  put := fun s r h => by subst h; exact bytesSp_put s r
  sound := fun b r s h => bytesSp_sound h
/-- a request -/
def reqI : ByteArray → Option (ByteArray × (Int × Int × ByteArray)) := mapSp (fun d : Nat × Nat × ByteArray => ((d.1 : Int), (d.2.1 : Int), d.2.2)) reqSp
theorem codec_req : Codec reqI (fun r => reqB r.1 r.2.1 r.2.2) (fun r => rightR r.1 r.2.1 r.2.2) :=
  Codec.map (A := reqSp) (ea := fun d => reqB (d.1 : Int) (d.2.1 : Int) d.2.2) (oa := fun d => rightR d.1 d.2.1 d.2.2)
    ⟨fun ⟨c, q, s⟩ r h => reqSp_put c q s r h, fun b r ⟨c, q, s⟩ h => reqSp_sound h⟩ _ _ _ (fun _ _ => rfl) (fun _ h => h) (fun ⟨c, q, s⟩ h => by
      obtain ⟨h0, h1, h2, h3, h4⟩ := (show rightR c q s from h)
      refine ⟨(c.toNat, q.toNat, s), ?_, ?_⟩
      · show rightR ((c.toNat : Nat) : Int) ((q.toNat : Nat) : Int) s
        unfold rightR; omega
      · show (((c.toNat : Nat) : Int), ((q.toNat : Nat) : Int), s) = _
        rw [show ((c.toNat : Nat) : Int) = c by omega, show ((q.toNat : Nat) : Int) = q by omega])
/-- a signature -/
def sigI : ByteArray → Option (ByteArray × (Int × List ByteArray)) := seqSp (numI 0 6) (countSp 7 (bytesSp 16))
theorem codec_sig : Codec sigI (fun p => sigB p.1 p.2) (fun p => rightSig p.1 p.2 = true) := by
  have h := (codec_num 0 6 (by omega) (by omega)).seq ((codec_bytes 16).count 7 (by omega))
  refine ⟨fun p r hp => ?_, fun b r p hp => ?_⟩
  · have h1 : (0 ≤ p.1 ∧ p.1 ≤ 6) ∧ p.2.length ≤ 7 ∧ ∀ x ∈ p.2, x.size = 16 := by
      unfold rightSig at hp
      simp only [Bool.and_eq_true, decide_eq_true_eq, List.all_eq_true] at hp
      obtain ⟨h1, ⟨h2, h3⟩, h4⟩ := hp
      rw [List.take_of_length_le (by omega)] at h1
      exact ⟨⟨h2, by omega⟩, h4, h1⟩
    have := h.put p r h1
    rw [show num p.1 ++ listB (p.2.map fun s => s) = sigB p.1 p.2 by rw [List.map_id']; rfl] at this
    exact this
  · obtain ⟨e, ⟨h2, h3⟩, h4, h1⟩ := h.sound b r p hp
    rw [show num p.1 ++ listB (p.2.map fun s => s) = sigB p.1 p.2 by rw [List.map_id']; rfl] at e
    refine ⟨e, ?_⟩
    unfold rightSig
    simp only [Bool.and_eq_true, decide_eq_true_eq, List.all_eq_true]
    refine ⟨?_, ⟨h2, by omega⟩, h4⟩
    rw [List.take_of_length_le (by omega)]
    exact h1
/-- each is of a greater node than the one ahead -/
def risesTo (l : List (Int × List ByteArray)) : Nat → Bool
  | 0 => true
  | i + 1 => risesTo l i && (decide (i = 0) || decide ((l.getD (i - 1) (0, [])).1 < (l.getD i (0, [])).1))
def rises (l : List (Int × List ByteArray)) : Bool := risesTo l l.length
theorem okTo_iff (l : List (Int × List ByteArray)) (n : Nat) : okTo l n = true ↔ (∀ i, i < n → rightSig (l.getD i (0, [])).1 (l.getD i (0, [])).2 = true) ∧ risesTo l n = true := by
  induction n with
  | zero => exact ⟨fun _ => ⟨fun i hi => by omega, rfl⟩, fun _ => rfl⟩
  | succ n ih =>
    show (okTo l n && (_ && _)) = true ↔ _ ∧ (risesTo l n && _) = true
    rw [Bool.and_eq_true, Bool.and_eq_true, Bool.and_eq_true, ih]
    constructor
    · rintro ⟨⟨h1, h2⟩, h3, h4⟩
      refine ⟨fun i hi => ?_, h2, h4⟩
      by_cases e : i = n
      · subst e; exact h3
      · exact h1 i (by omega)
    · rintro ⟨h1, h2, h4⟩
      exact ⟨⟨fun i hi => h1 i (by omega), h2⟩, h1 n (by omega), h4⟩
theorem all_getD {l : List (Int × List ByteArray)} {p : Int × List ByteArray → Prop} : (∀ i, i < l.length → p (l.getD i (0, []))) ↔ ∀ x ∈ l, p x := by
  constructor
  · intro h x hx
    obtain ⟨i, hi, rfl⟩ := List.mem_iff_getElem.1 hx
    have := h i hi
    rwa [List.getD_eq_getElem?_getD, List.getElem?_eq_getElem hi] at this
  · intro h i hi
    rw [List.getD_eq_getElem?_getD, List.getElem?_eq_getElem hi]
    exact h _ (List.getElem_mem hi)
abbrev CertD := (Int × ByteArray) × List (Int × List ByteArray)
abbrev BlockD := ((Int × Int) × CertD) × List (Int × Int × ByteArray)
def certD (c : CertD) : ByteArray := certB c.1.1 c.1.2 c.2
def certOk (c : CertD) : Prop := rightCert c.1.1 c.1.2 c.2 = true
/-- a certificate -/
def certI : ByteArray → Option (ByteArray × CertD) := filtSp (seqSp (seqSp (numI 0 1000000) (bytesSp 32)) (countSp 7 sigI)) (fun c => rises c.2)
theorem codec_cert : Codec certI certD certOk := by
  have h := (((codec_num 0 1000000 (by omega) (by omega)).seq (codec_bytes 32)).seq (codec_sig.count 7 (by omega))).filt (fun c => rises c.2)
  refine ⟨fun c r hc => ?_, fun b r c hc => ?_⟩
  · unfold certOk rightCert at hc
    simp only [Bool.and_eq_true, decide_eq_true_eq] at hc
    obtain ⟨⟨⟨⟨h1, h2⟩, h3⟩, h4⟩, h5⟩ := hc
    rw [okTo_iff] at h5
    exact h.put c r ⟨⟨⟨⟨h1, h2⟩, h3⟩, h4, all_getD.1 h5.1⟩, h5.2⟩
  · obtain ⟨e, ⟨⟨⟨h1, h2⟩, h3⟩, h4, h5⟩, h6⟩ := h.sound b r c hc
    refine ⟨e, ?_⟩
    unfold certOk rightCert
    simp only [Bool.and_eq_true, decide_eq_true_eq]
    exact ⟨⟨⟨⟨h1, h2⟩, h3⟩, h4⟩, (okTo_iff _ _).2 ⟨all_getD.2 h5, h6⟩⟩
def blockD (x : BlockD) : ByteArray := blockB x.1.1.1 x.1.1.2 x.1.2.1.1 x.1.2.1.2 x.1.2.2 x.2
def blockOk (x : BlockD) : Prop := rightBlock x.1.1.1 x.1.1.2 x.1.2.1.1 x.1.2.1.2 x.1.2.2 x.2 = true
/-- a block -/
def blockI : ByteArray → Option (ByteArray × BlockD) := seqSp (filtSp (seqSp (seqSp (numI 1 1000000) (numI 0 6)) certI) (fun x => decide (x.2.1.1 < x.1.1))) (countSp 3 reqI)
theorem codec_block : Codec blockI blockD blockOk := by
  have h := ((((codec_num 1 1000000 (by omega) (by omega)).seq (codec_num 0 6 (by omega) (by omega))).seq codec_cert).filt (fun x => decide (x.2.1.1 < x.1.1))).seq (codec_req.count 3 (by omega))
  refine ⟨fun x r hc => ?_, fun b r x hc => ?_⟩
  · unfold blockOk rightBlock at hc
    simp only [Bool.and_eq_true, decide_eq_true_eq, List.all_eq_true] at hc
    obtain ⟨⟨h1, h2, h3, h4, h5, h6, h7⟩, h8⟩ := hc
    exact h.put x r ⟨⟨⟨⟨⟨h1, h2⟩, h3, h4⟩, h5⟩, by simpa using h6⟩, h7, h8⟩
  · obtain ⟨e, ⟨⟨⟨⟨h1, h2⟩, h3, h4⟩, h5⟩, h6⟩, h7, h8⟩ := h.sound b r x hc
    refine ⟨e, ?_⟩
    unfold blockOk rightBlock
    simp only [Bool.and_eq_true, decide_eq_true_eq, List.all_eq_true]
    exact ⟨⟨h1, h2, h3, h4, h5, by simpa using h6, h7⟩, h8⟩
end WW
end
section
open Go Go.RowKit
namespace FF
open WW BB
/-- a block with its digest -/
abbrev It := ByteArray × BlockD
def i0 : It := (⟨#[]⟩, (((0, 0), ((0, ⟨#[]⟩), [])), []))
def viewI (b : BlockD) : Int := b.1.1.1
def propI (b : BlockD) : Int := b.1.1.2
def jvI (b : BlockD) : Int := b.1.2.1.1
def parI (b : BlockD) : ByteArray := b.1.2.1.2
def sigsI (b : BlockD) : List (Int × List ByteArray) := b.1.2.2
structure Fo where
  root : ByteArray
  height : Int
  nodes : List It
  orph : List It
/-- where a digest is; -1 -/
def atI (l : List It) (h : ByteArray) : Int :=
  match l.findIdx? (fun x => decide (x.1 = h)) with
  | some i => (i : Int)
  | none => -1
/-- is it there? -/
def hasF (f : Fo) (h : ByteArray) : Bool := decide (h = f.root) || decide (0 ≤ atI f.nodes h)
/-- a block that has its parent there -/
def badF (f : Fo) (b : BlockD) : Prop := 0 ≤ atI f.nodes (parI b) ∧ (viewI b ≤ viewI (f.nodes.getD (atI f.nodes (parI b)).toNat i0).2 ∨ viewI b ≤ jvI b ∨ jvI b ≠ viewI (f.nodes.getD (atI f.nodes (parI b)).toNat i0).2)
instance (f : Fo) (b : BlockD) : Decidable (badF f b) := by unfold badF; infer_instance
def standF (f : Fo) (x : It) : Fo × Int :=
  if badF f x.2 then (f, 5) else if 400 ≤ f.nodes.length then (f, 7) else ({ f with nodes := f.nodes ++ [x] }, 0)
/-- the first orphan whose parent is there -/
def readyF (f : Fo) : Option Nat := f.orph.findIdx? fun x => hasF f (parI x.2)
/-- orphans whose parents are there, at most so many -/
def adoptF : Nat → Fo → Fo
  | 0, f => f
  | m + 1, f =>
    match readyF f with
    | none => f
    | some i => adoptF m (standF { f with orph := f.orph.eraseIdx i } (f.orph.getD i i0)).1
/-- ancestors, itself first, down to the root -/
def upF (f : Fo) : Nat → ByteArray → List ByteArray → List ByteArray
  | 0, _, _ => []
  | k + 1, h, out =>
    if hasF f h = false then [] else if h = f.root then out ++ [h] else upF f k (parI (f.nodes.getD (atI f.nodes h).toNat i0).2) (out ++ [h])
def ancF (f : Fo) (h : ByteArray) : List ByteArray := upF f (f.nodes.length + 1) h []
def heightF (f : Fo) (h : ByteArray) : Int := if (ancF f h).length = 0 then -1 else f.height + (ancF f h).length - 1
end FF
end
section
open Go Go.RowKit
namespace FF
open WW BB
/-- each node's parent is the root, or was there ahead of it -/
inductive Grown (r : ByteArray) : List It → Prop
  | nil : Grown r []
  | snoc (l : List It) (x : It) : Grown r l → (parI x.2 = r ∨ ∃ y ∈ l, y.1 = parI x.2) → Grown r (l ++ [x])
structure WF (F : Fo) : Prop where
  root32 : F.root.size = 32
  d32 : ∀ x ∈ F.nodes ++ F.orph, x.1.size = 32
  ne : ∀ x ∈ F.nodes ++ F.orph, x.1 ≠ F.root
  apart : ((F.nodes ++ F.orph).map Prod.fst).Nodup
  up : Grown F.root F.nodes
  n400 : F.nodes.length ≤ 400
  o8 : F.orph.length ≤ 8
inductive Anc (F : Fo) : ByteArray → List ByteArray → Prop
  | root : Anc F F.root [F.root]
  | step (x : It) (l : List ByteArray) : x ∈ F.nodes → Anc F (parI x.2) l → Anc F x.1 (x.1 :: l)
theorem at_mem (l : List It) (h : ByteArray) : 0 ≤ atI l h ↔ ∃ x ∈ l, x.1 = h := by
  unfold atI
  split
  · rename_i i hi
    have := List.findIdx?_eq_some_iff_getElem.1 hi
    obtain ⟨hl, hx, _⟩ := this
    exact ⟨fun _ => ⟨l[i], List.getElem_mem hl, by simpa using hx⟩, fun _ => by omega⟩
  · rename_i hi
    refine ⟨fun h => by omega, fun ⟨x, hx, e⟩ => ?_⟩
    have := List.findIdx?_eq_none_iff.1 hi x hx
    simp [e] at this
theorem has_iff (F : Fo) (h : ByteArray) : hasF F h = true ↔ h = F.root ∨ ∃ x ∈ F.nodes, x.1 = h := by
  unfold hasF; rw [Bool.or_eq_true, decide_eq_true_iff, decide_eq_true_iff, at_mem]
theorem nodup_inj {l : List It} (h : (l.map Prod.fst).Nodup) {x y : It} (hx : x ∈ l) (hy : y ∈ l) (e : x.1 = y.1) : x = y := by
  induction l with
  | nil => cases hx
  | cons z r ih =>
    rw [List.map_cons, List.nodup_cons] at h
    rcases List.mem_cons.1 hx with e1 | hx
    · rcases List.mem_cons.1 hy with e2 | hy
      · rw [e1, e2]
      · exact absurd (List.mem_map.2 ⟨y, hy, by rw [← e, e1]⟩) h.1
    · rcases List.mem_cons.1 hy with e2 | hy
      · exact absurd (List.mem_map.2 ⟨x, hx, by rw [e, e2]⟩) h.1
      · exact ih h.2 hx hy
theorem WF.nodup {F : Fo} (h : WF F) : (F.nodes.map Prod.fst).Nodup := by
  have := h.apart; rw [List.map_append, List.nodup_append] at this; exact this.1
theorem at_node {l : List It} (h : (l.map Prod.fst).Nodup) {x : It} (hx : x ∈ l) : l.getD (atI l x.1).toNat i0 = x := by
  have h0 := (at_mem l x.1).2 ⟨x, hx, rfl⟩
  unfold atI at h0 ⊢
  split at h0
  · rename_i i hi
    obtain ⟨hl, hx2, _⟩ := List.findIdx?_eq_some_iff_getElem.1 hi
    show l.getD (Int.toNat (i : Int)) i0 = x
    rw [Int.toNat_natCast, List.getD_eq_getElem?_getD, List.getElem?_eq_getElem hl]
    exact nodup_inj h (List.getElem_mem hl) hx (by simpa using hx2)
  · omega
theorem Anc.has {F : Fo} {h : ByteArray} {l : List ByteArray} (a : Anc F h l) : hasF F h = true := by
  rw [has_iff]
  cases a with
  | root => exact Or.inl rfl
  | step x l hx _ => exact Or.inr ⟨x, hx, rfl⟩
theorem Anc.ne {F : Fo} {h : ByteArray} {l : List ByteArray} (a : Anc F h l) : 0 < l.length := by cases a <;> simp
theorem anc_up {F : Fo} (hF : WF F) {h : ByteArray} {l : List ByteArray} (a : Anc F h l) : ∀ (k : Nat) (out : List ByteArray), l.length ≤ k → upF F k h out = out ++ l := by
  induction a with
  | root =>
    intro k out hk
    obtain ⟨k, rfl⟩ : ∃ j, k = j + 1 := ⟨k - 1, by simp at hk; omega⟩
    unfold upF
    rw [if_neg (by rw [Anc.root.has]; simp), if_pos rfl]
  | step x l hx a ih =>
    intro k out hk
    obtain ⟨k, rfl⟩ : ∃ j, k = j + 1 := ⟨k - 1, by simp at hk; omega⟩
    unfold upF
    rw [if_neg (by rw [(Anc.step x l hx a).has]; simp), if_neg (hF.ne x (List.mem_append_left _ hx)), at_node hF.nodup hx, ih k _ (by simpa using hk)]
    simp
theorem anc_uniq {F : Fo} (hF : WF F) {h : ByteArray} {l l' : List ByteArray} (a : Anc F h l) (b : Anc F h l') : l = l' := by
  have h1 := anc_up hF a (l.length + l'.length) [] (by omega)
  have h2 := anc_up hF b (l.length + l'.length) [] (by omega)
  rw [h1] at h2
  simpa using h2
theorem grown_anc {F : Fo} {m : List It} (g : Grown F.root m) (hm : ∀ x ∈ m, x ∈ F.nodes) : ∀ x ∈ m, ∃ l, Anc F x.1 l ∧ l.length ≤ m.length + 1 := by
  induction g with
  | nil => intro x hx; cases hx
  | snoc m y g hp ih =>
    have ih := ih fun x hx => hm x (List.mem_append_left _ hx)
    intro x hx
    rcases List.mem_append.1 hx with hx | hx
    · obtain ⟨l, h1, h2⟩ := ih x hx
      exact ⟨l, h1, by simp; omega⟩
    · obtain rfl : x = y := by simpa using hx
      have hin := hm x (by simp)
      rcases hp with hp | ⟨z, hz, hp⟩
      · exact ⟨_, Anc.step x _ hin (hp ▸ Anc.root), by simp⟩
      · obtain ⟨l, h1, h2⟩ := ih z hz
        exact ⟨_, Anc.step x l hin (hp ▸ h1), by simp; omega⟩
theorem has_anc {F : Fo} (hF : WF F) {h : ByteArray} (hh : hasF F h = true) : ∃ l, Anc F h l ∧ l.length ≤ F.nodes.length + 1 := by
  rcases (has_iff F h).1 hh with rfl | ⟨x, hx, rfl⟩
  · exact ⟨_, Anc.root, by simp⟩
  · exact grown_anc hF.up (fun _ h => h) x hx
theorem anc_is {F : Fo} (hF : WF F) {h : ByteArray} {l : List ByteArray} (a : Anc F h l) : ancF F h = l := by
  obtain ⟨l', b, hl⟩ := has_anc hF a.has
  rw [anc_uniq hF a b]
  unfold ancF
  simpa using anc_up hF b (F.nodes.length + 1) [] hl
theorem anc_of {F : Fo} (hF : WF F) {h : ByteArray} (hh : hasF F h = true) : Anc F h (ancF F h) := by
  obtain ⟨l, a, _⟩ := has_anc hF hh
  rw [anc_is hF a]; exact a
theorem height_is {F : Fo} (hF : WF F) {h : ByteArray} {l : List ByteArray} (a : Anc F h l) : heightF F h = F.height + l.length - 1 := by
  unfold heightF; rw [anc_is hF a, if_neg (by have := a.ne; omega)]
/-- what stands behind x has come -/
def moreF (F : Fo) (x : It) : Fo := { F with nodes := F.nodes ++ [x] }
theorem Anc.more {F : Fo} {x : It} {h : ByteArray} {l : List ByteArray} (a : Anc F h l) : Anc (moreF F x) h l := by
  induction a with
  | root => exact Anc.root (F := moreF F x)
  | step y l hy _ ih => exact Anc.step (F := moreF F x) y l (List.mem_append_left _ hy) ih
/-- a block that may come: with a digest that nothing has -/
def Fresh (F : Fo) (x : It) : Prop := x.1.size = 32 ∧ x.1 ≠ F.root ∧ ∀ y ∈ F.nodes ++ F.orph, y.1 ≠ x.1
theorem more_wf {F : Fo} (hF : WF F) {x : It} (hx : Fresh F x) (hp : hasF F (parI x.2) = true) (hn : F.nodes.length < 400) : WF (moreF F x) := by
  obtain ⟨h1, h2, h3⟩ := hx
  have hm : ∀ y ∈ (moreF F x).nodes ++ (moreF F x).orph, y ∈ F.nodes ++ F.orph ∨ y = x := by
    intro y hy
    simp only [moreF, List.mem_append, List.mem_singleton] at hy ⊢
    rcases hy with (hy | hy) | hy
    · exact Or.inl (Or.inl hy)
    · exact Or.inr hy
    · exact Or.inl (Or.inr hy)
  refine ⟨hF.root32, fun y hy => ?_, fun y hy => ?_, ?_, ?_, by simp [moreF]; omega, hF.o8⟩
  · rcases hm y hy with h | rfl
    · exact hF.d32 y h
    · exact h1
  · rcases hm y hy with h | rfl
    · exact hF.ne y h
    · exact h2
  · have := hF.apart
    simp only [moreF, List.map_append, List.map_cons, List.append_assoc, List.singleton_append] at this ⊢
    rw [List.nodup_append] at this ⊢
    obtain ⟨k1, k2, k3⟩ := this
    refine ⟨k1, List.nodup_cons.2 ⟨fun hm => ?_, k2⟩, fun a ha b hb => ?_⟩
    · obtain ⟨y, hy, e⟩ := List.mem_map.1 hm
      exact h3 y (List.mem_append_right _ hy) e
    · rcases List.mem_cons.1 hb with rfl | hb
      · obtain ⟨y, hy, rfl⟩ := List.mem_map.1 ha
        exact h3 y (List.mem_append_left _ hy)
      · exact k3 a ha b hb
  · refine Grown.snoc F.nodes x hF.up ?_
    rcases (has_iff F _).1 hp with h | ⟨y, hy, e⟩
    · exact Or.inl h
    · exact Or.inr ⟨y, hy, e⟩
theorem more_old {F : Fo} (hF : WF F) {x : It} (hw : WF (moreF F x)) {h : ByteArray} (hh : hasF F h = true) : heightF (moreF F x) h = heightF F h := by
  rw [height_is hw (anc_of hF hh).more, height_is hF (anc_of hF hh)]; rfl
theorem more_new {F : Fo} (hF : WF F) {x : It} (hw : WF (moreF F x)) (hp : hasF F (parI x.2) = true) : heightF (moreF F x) x.1 = heightF F (parI x.2) + 1 := by
  rw [height_is hw (Anc.step (F := moreF F x) x _ (by simp [moreF]) (anc_of hF hp).more), height_is hF (anc_of hF hp)]
  simp [moreF]; omega
theorem getD_at {α : Type} {l : List α} {i : Nat} {d : α} (h : i < l.length) : l.getD i d = l[i] := by
  rw [List.getD_eq_getElem?_getD, List.getElem?_eq_getElem h]; rfl
theorem new_wf (r : ByteArray) (h : r.size = 32) : WF ⟨r, 0, [], []⟩ := ⟨h, by simp, by simp, by simp, Grown.nil, by simp, by simp⟩
end FF
end
section
open Go Go.RowKit
namespace WW
open BB
/-- what was read, in block t's cells: d, in this world, in blocks from lo below hi; the cells were f, and are f' -/
abbrev RelT (δ : Type) := δ → World → Nat → Nat → (Nat → Value) → (Nat → Value) → Prop
structure SoundR {δ : Type} (R : RelT δ) : Prop where
  keep : ∀ {d w w' lo hi f f'}, R d w lo hi f f' → (∀ k, lo ≤ k → k < hi → w'.heap[k]? = w.heap[k]?) → R d w' lo hi f f'
  wide : ∀ {d w lo hi lo' hi' f f'}, R d w lo hi f f' → lo' ≤ lo → hi ≤ hi' → R d w lo' hi' f f'
section
variable {P : Program} {t n : Nat} {v : Value} {W : World} {α β δ : Type} {A : ByteArray → Option (ByteArray × α)} {B : ByteArray → Option (ByteArray × β)} {Sp : ByteArray → Option (ByteArray × δ)} {R : RelT δ} {R1 : RelT α} {R2 : RelT β} {Pre Pre2 : (Nat → Value) → Prop} {f : Nat → Value} {w : World}
def EffR (t n : Nat) (w : World) (f : Nat → Value) (R : RelT δ) (x : Option (ByteArray × δ)) (ok : Bool) (r : ByteArray) (w' : World) : Prop :=
  match x with
  | none => ok = false ∧ ∃ f', Keep t w w' ∧ Blk w' t n f'
  | some (r', d) => ok = true ∧ r = r' ∧ ∃ f', Keep t w w' ∧ Blk w' t n f' ∧ R d w' w.heap.size w'.heap.size f f'
/-- v cuts off what Sp says, and puts it into block t, by R -/
def CutR (P : Program) (t n : Nat) (v : Value) (W : World) (Pre : (Nat → Value) → Prop) (Sp : ByteArray → Option (ByteArray × δ)) (R : RelT δ) : Prop :=
  ∀ f b w, b.size ≤ 1000000 → Keep t W w → Blk w t n f → Pre f → Cut P v b w (EffR t n w f R (Sp b))
theorem CutR.later {W' : World} (h : CutR P t n v W Pre Sp R) (hk : Keep t W W') : CutR P t n v W' Pre Sp R := fun f b w hb hw ht hp => h f b w hb (hk.trans hw) ht hp
theorem CutTo.toR {eff : δ → (Nat → Value) → Nat → Value} (h : CutTo P t n v W Sp eff) : CutR P t n v W (fun _ => True) Sp (fun d _ _ _ f f' => f' = eff d f) := fun f b w hb hk ht _ =>
  (h f b w hb hk ht).mono fun ok r w' he => by
    unfold Eff at he
    unfold EffR
    rcases hS : Sp b with _ | ⟨r', d⟩ <;> rw [hS] at he
    · exact he
    · obtain ⟨h1, h2, h3⟩ := he
      exact ⟨h1, h2, _, h3.1, h3.2, rfl⟩
theorem CutR.map {g : α → β} (h : CutR P t n v W Pre A R1) (hR : ∀ d w lo hi f f', R1 d w lo hi f f' → R2 (g d) w lo hi f f') : CutR P t n v W Pre (mapSp g A) R2 := fun f b w hb hk ht hp =>
  (h f b w hb hk ht hp).mono fun ok r w' he => by
    unfold EffR at he ⊢
    rcases hA : A b with _ | ⟨r', d⟩
    · rw [hA] at he; rw [map_none hA]; exact he
    · rw [hA] at he; rw [map_some hA]
      obtain ⟨h1, h2, f', h3, h4, h5⟩ := he
      exact ⟨h1, h2, f', h3, h4, hR _ _ _ _ _ _ h5⟩
theorem CutR.weak {R' : RelT δ} {Pre' : (Nat → Value) → Prop} (h : CutR P t n v W Pre Sp R) (hP : ∀ f, Pre' f → Pre f) (hR : ∀ d w lo hi f f', R d w lo hi f f' → R' d w lo hi f f') : CutR P t n v W Pre' Sp R' := fun f b w hb hk ht hp =>
  (h f b w hb hk ht (hP f hp)).mono fun ok r w' he => by
    unfold EffR at he ⊢
    rcases hS : Sp b with _ | ⟨r', d⟩ <;> rw [hS] at he
    · exact he
    · obtain ⟨h1, h2, f', h3, h4, h5⟩ := he
      exact ⟨h1, h2, f', h3, h4, hR _ _ _ _ _ _ h5⟩
/-- a number in cell o; a text in cell o -/
def numR (o : Nat) : RelT Int := fun d _ _ _ f f' => f' = put f o (.int .i64 d)
def strR (o : Nat) : RelT ByteArray := fun d _ _ _ f f' => f' = put f o (.string d)
theorem sound_num (o : Nat) : SoundR (numR o) := ⟨fun h _ => h, fun h _ _ => h⟩
theorem sound_str (o : Nat) : SoundR (strR o) := ⟨fun h _ => h, fun h _ _ => h⟩
theorem cutr_num {lo hi : Int} {o : Nat} (h : CutTo P t n v W (numSp lo hi) (putN o)) : CutR P t n v W (fun _ => True) (numI lo hi) (numR o) := h.toR.map fun _ _ _ _ _ _ h => h
theorem cutr_str {o : Nat} {Sp : ByteArray → Option (ByteArray × ByteArray)} (h : CutTo P t n v W Sp (putS o)) : CutR P t n v W (fun _ => True) Sp (strR o) := h.toR
/-- one behind the other -/
def seqR (R1 : RelT α) (R2 : RelT β) : RelT (α × β) := fun d w lo hi f f' => ∃ g, R1 d.1 w lo hi f g ∧ R2 d.2 w lo hi g f'
theorem SoundR.seq (h1 : SoundR R1) (h2 : SoundR R2) : SoundR (seqR R1 R2) :=
  ⟨fun ⟨g, a, b⟩ hk => ⟨g, h1.keep a hk, h2.keep b hk⟩, fun ⟨g, a, b⟩ hl hh => ⟨g, h1.wide a hl hh, h2.wide b hl hh⟩⟩
/-- these cuts, in order -/
def OrdR (P : Program) (t n : Nat) (vs : List Value) (W : World) (Pre : (Nat → Value) → Prop) (Sp : ByteArray → Option (ByteArray × δ)) (R : RelT δ) : Prop :=
  ∀ (E : World → Prop) (Q : Bool → ByteArray → World → Prop) f b w, b.size ≤ 1000000 → Keep t W w → Blk w t n f → Pre f → (∀ w', Keep t W w' → E w') → (∀ ok r w', EffR t n w f R (Sp b) ok r w' → Q ok (if ok then r else ⟨#[]⟩) w') → OrderWp P E Q vs b w
theorem OrdR.one (h : CutR P t n v W Pre Sp R) : OrdR P t n [v] W Pre Sp R := fun E Q f b w hb hk ht hp hE hQ => by
  refine (h f b w hb hk ht hp).mono fun ok r w' he => ?_
  have hk' : Keep t w w' := by
    unfold EffR at he
    rcases hS : Sp b with _ | ⟨r', d⟩
    · rw [hS] at he; exact he.2.choose_spec.1
    · rw [hS] at he; exact he.2.2.choose_spec.1
  have := hQ ok r w' he
  refine ⟨hE w' (hk.trans hk'), ?_⟩
  cases ok
  · exact this
  · exact this
theorem orderWp_app {E : World → Prop} {Q : Bool → ByteArray → World → Prop} (v : Value) : ∀ (vs : List Value) (b : ByteArray) (w : World),
    OrderWp P E (fun ok r w' => if ok then Cut P v r w' (fun ok2 r2 w2 => E w2 ∧ (if ok2 then Q true r2 w2 else Q false ⟨#[]⟩ w2)) else Q false ⟨#[]⟩ w') vs b w → OrderWp P E Q (vs ++ [v]) b w
  | [], b, w, h => h
  | v0 :: vs, b, w, h => by
    refine Cut.mono (show Cut P v0 b w _ from h) fun ok r w' ⟨hE, hr⟩ => ⟨hE, ?_⟩
    cases ok
    · exact hr
    · exact orderWp_app v vs r w' hr
theorem keep_fix {s w1 w2 : World} {t : Nat} (h : Keep t w1 w2) (ht : t < s.heap.size) : ∀ k, s.heap.size ≤ k → k < w1.heap.size → w2.heap[k]? = w1.heap[k]? := fun k h1 h2 => h.block k h2 (by omega)
theorem OrdR.app {vs : List Value} (h1 : OrdR P t n vs W Pre A R1) (h2 : CutR P t n v W Pre2 B R2) (s1 : SoundR R1) (s2 : SoundR R2) (hsz : ∀ b r x, A b = some (r, x) → r.size ≤ b.size)
    (hpre : ∀ d w lo hi f g, Pre f → R1 d w lo hi f g → Pre2 g) : OrdR P t n (vs ++ [v]) W Pre (seqSp A B) (seqR R1 R2) := fun E Q f b w hb hk ht hp hE hQ => by
  refine orderWp_app v vs b w (h1 E _ f b w hb hk ht hp hE fun ok r w' he => ?_)
  unfold EffR at he
  rcases hA : A b with _ | ⟨r', d⟩
  · rw [hA] at he
    obtain ⟨rfl, f', h3, h4⟩ := he
    refine hQ false ⟨#[]⟩ w' ?_
    unfold EffR
    rw [seq_none1 hA]
    exact ⟨rfl, f', h3, h4⟩
  · rw [hA] at he
    obtain ⟨rfl, rfl, g, h3, h4, h5⟩ := he
    show Cut P v r w' _
    refine (h2 g r w' (by have := hsz _ _ _ hA; omega) (hk.trans h3) h4 (hpre _ _ _ _ _ _ hp h5)).mono fun ok2 r2 w2 he2 => ?_
    unfold EffR at he2
    rcases hB : B r with _ | ⟨r3, d2⟩
    · rw [hB] at he2
      obtain ⟨rfl, f', h6, h7⟩ := he2
      refine ⟨hE _ (hk.trans (h3.trans h6)), hQ false ⟨#[]⟩ w2 ?_⟩
      unfold EffR
      rw [seq_none2 hA hB]
      exact ⟨rfl, f', h3.trans h6, h7⟩
    · rw [hB] at he2
      obtain ⟨rfl, rfl, f', h6, h7, h8⟩ := he2
      refine ⟨hE _ (hk.trans (h3.trans h6)), hQ true r2 w2 ?_⟩
      unfold EffR
      rw [seq_some hA hB]
      exact ⟨rfl, rfl, f', h3.trans h6, h7, g, s1.wide (s1.keep h5 (keep_fix h6 ht.lt)) (Nat.le_refl _) h6.size, s2.wide h8 h3.size (Nat.le_refl _)⟩
/-- v reads nothing: it tells whether p holds of what was read -/
def ProvR (P : Program) (t n : Nat) (v : Value) (W : World) (Pre : (Nat → Value) → Prop) (Sp : ByteArray → Option (ByteArray × δ)) (R : RelT δ) (p : δ → Bool) : Prop :=
  ∀ d f f' lo hi b w, (∃ b0 r0, Sp b0 = some (r0, d)) → Keep t W w → hi ≤ w.heap.size → Blk w t n f' → Pre f → R d w lo hi f f' → Cut P v b w fun ok r w' => ok = p d ∧ r = b ∧ Below w.heap.size w w'
theorem OrdR.prov {vs : List Value} {p : α → Bool} (h1 : OrdR P t n vs W Pre A R1) (h2 : ProvR P t n v W Pre A R1 p) (s1 : SoundR R1) : OrdR P t n (vs ++ [v]) W Pre (filtSp A p) R1 := fun E Q f b w hb hk ht hp hE hQ => by
  refine orderWp_app v vs b w (h1 E _ f b w hb hk ht hp hE fun ok r w' he => ?_)
  unfold EffR at he
  rcases hA : A b with _ | ⟨r', d⟩
  · rw [hA] at he
    obtain ⟨rfl, f', h3, h4⟩ := he
    refine hQ false ⟨#[]⟩ w' ?_
    unfold EffR
    rw [filt_none hA]
    exact ⟨rfl, f', h3, h4⟩
  · rw [hA] at he
    obtain ⟨rfl, rfl, g, h3, h4, h5⟩ := he
    show Cut P v r w' _
    refine (h2 d f g _ _ r w' ⟨_, _, hA⟩ (hk.trans h3) (Nat.le_refl _) h4 hp h5).mono fun ok2 r2 w2 ⟨e1, e2, hb2⟩ => ?_
    have h6 : Keep t w' w2 := keep_of_below hb2 (Nat.le_refl _) t
    have h7 : Blk w2 t n g := h4.below hb2 h4.lt
    subst e1 e2
    refine ⟨hE _ (hk.trans (h3.trans h6)), ?_⟩
    rcases hpd : p d with _ | _
    · refine hQ false ⟨#[]⟩ w2 ?_
      unfold EffR
      rw [filt_some hA, hpd, if_neg (by simp)]
      exact ⟨rfl, g, h3.trans h6, h7⟩
    · refine hQ true r2 w2 ?_
      unfold EffR
      rw [filt_some hA, hpd, if_pos rfl]
      exact ⟨rfl, rfl, g, h3.trans h6, h7, s1.wide (s1.keep h5 (keep_fix h6 ht.lt)) (Nat.le_refl _) h6.size⟩
/-- a closure that cuts is made -/
def MakesR (P : Program) (t n : Nat) (w : World) (Pre : (Nat → Value) → Prop) (Sp : ByteArray → Option (ByteArray × δ)) (R : RelT δ) (e : Ending) (w' : World) : Prop :=
  ∃ k env, e = .returned (.func (.func k) #[] env) ∧ Below w.heap.size w w' ∧ CutR P t n (.func (.func k) #[] env) w' Pre Sp R
/-- ev makes a closure that cuts, for a new thing of k cells, z -/
def EachR (P : Program) (ev : Value) (k : Nat) (z : Nat → Value) (Sp : ByteArray → Option (ByteArray × δ)) (R : RelT δ) : Prop :=
  ∀ (tx : Nat) (w : World), tx < w.heap.size → CallsV P ev #[.pointer (some ⟨tx, 0, none⟩)] w (MakesR P tx k w (fun f => ∀ i, i < k → f i = z i) Sp R)
/-- the elements of a list that was read: each by R, in the row that sv owns -/
structure ElemsR (e : TypeId) (k : Nat) (z : Nat → Value) (R : RelT δ) (w : World) (lo hi : Nat) (sv : Value) (l : List δ) (xs : List Value) : Prop where
  row : w.ownsRow lo e k sv l.length xs
  top : ∀ c, sv.ownBlock = some c → c < hi
  each : ∀ (i : Nat) (d : δ), l[i]? = some d → ∃ (lo1 hi1 : Nat) (g : Nat → Value), lo ≤ lo1 ∧ hi1 ≤ hi ∧ R d w lo1 hi1 z g ∧ (∀ j : Nat, j < k → xs[i * k + j]? = some (g j)) ∧ ∀ c, sv.ownBlock = some c → c < lo1 ∨ hi1 ≤ c
theorem owns_keep {w' : World} {e : TypeId} {lo k m : Nat} {sv : Value} {xs : List Value} (h : w.ownsRow lo e k sv m xs) (hk : ∀ c, sv.ownBlock = some c → w'.heap[c]? = w.heap[c]?) : w'.ownsRow lo e k sv m xs := by
  obtain ⟨h1, h2 | ⟨g, cap, cur, hv, hb, hc, rest⟩⟩ := h
  · exact ⟨h1, Or.inl h2⟩
  · subst hv
    exact ⟨h1, Or.inr ⟨g, cap, cur, rfl, hb, (hk g rfl).trans hc, rest⟩⟩
theorem owns_lo {e : TypeId} {lo lo' k m : Nat} {sv : Value} {xs : List Value} (h : w.ownsRow lo e k sv m xs) (hl : lo' ≤ lo) : w.ownsRow lo' e k sv m xs := by
  obtain ⟨h1, h2 | ⟨g, cap, cur, hv, hb, rest⟩⟩ := h
  · exact ⟨h1, Or.inl h2⟩
  · exact ⟨h1, Or.inr ⟨g, cap, cur, hv, by omega, rest⟩⟩
theorem owns_ge {e : TypeId} {lo k m : Nat} {sv : Value} {xs : List Value} (h : w.ownsRow lo e k sv m xs) : ∀ c, sv.ownBlock = some c → lo ≤ c := by
  obtain ⟨h1, ⟨rfl, _⟩ | ⟨g, cap, cur, rfl, hb, rest⟩⟩ := h
  · intro c hc; cases hc
  · intro c hc
    have : g = c := by simpa [Value.ownBlock] using hc
    omega
theorem ElemsR.keep {w' : World} {e : TypeId} {k lo hi : Nat} {z : Nat → Value} {sv : Value} {l : List δ} {xs : List Value} (h : ElemsR e k z R w lo hi sv l xs) (hR : SoundR R) (hk : ∀ c, lo ≤ c → c < hi → w'.heap[c]? = w.heap[c]?) : ElemsR e k z R w' lo hi sv l xs := by
  refine ⟨owns_keep h.row fun c hc => hk c (owns_ge h.row c hc) (h.top c hc), h.top, fun i d hd => ?_⟩
  obtain ⟨lo1, hi1, g, h1, h2, h3, h4, h5⟩ := h.each i d hd
  exact ⟨lo1, hi1, g, h1, h2, hR.keep h3 fun c a b => hk c (by omega) (by omega), h4, h5⟩
theorem ElemsR.wide {e : TypeId} {k lo hi lo' hi' : Nat} {z : Nat → Value} {sv : Value} {l : List δ} {xs : List Value} (h : ElemsR e k z R w lo hi sv l xs) (hl : lo' ≤ lo) (hh : hi ≤ hi') : ElemsR e k z R w lo' hi' sv l xs := by
  refine ⟨owns_lo h.row hl, fun c hc => Nat.lt_of_lt_of_le (h.top c hc) hh, fun i d hd => ?_⟩
  obtain ⟨lo1, hi1, g, h1, h2, h3, h4, h5⟩ := h.each i d hd
  exact ⟨lo1, hi1, g, by omega, by omega, h3, h4, h5⟩
/-- a list in cell o -/
def listR (e : TypeId) (k : Nat) (z : Nat → Value) (R : RelT δ) (o : Nat) : RelT (List δ) := fun l w lo hi f f' => ∃ sv xs, f' = put f o sv ∧ ElemsR e k z R w lo hi sv l xs
theorem sound_list {e : TypeId} {k o : Nat} {z : Nat → Value} (hR : SoundR R) : SoundR (listR e k z R o) :=
  ⟨fun ⟨sv, xs, h1, h2⟩ hk => ⟨sv, xs, h1, h2.keep hR hk⟩, fun ⟨sv, xs, h1, h2⟩ hl hh => ⟨sv, xs, h1, h2.wide hl hh⟩⟩
end
end WW
end
section
open Go Go.RowKit
namespace RR
/-- the view voted last, the view preferred -/
abbrev St := Int × Int
end RR
end
