/-
  The walk of the reference's comparison of two lists of blocks.
-/
import Derived.Test.YtnahebfhhcebpaaGreatKTMath
import Derived.Test.YtnahebfhhcebpaaGreatKFAdopt
import Derived.Test.YtnahebfhhcebpaaGreatKWRef2
import Derived.Test.YtnahebfhhcebpaaGreatKTApp
import Derived.Test.YtnahebfhhcebpaaGreatKGMath
import Derived.Test.YtnahebfhhcebpaaGreatKWLawB
import Derived.Test.YtnahebfhhcebpaaGreatKPlanE
import Derived.Test.YtnahebfhhcebpaaGreatKJBox
import Derived.Laws.AppendOwn
import Derived.Test.YtnahebfhhcebpaaGreatKJRow
import Derived.Test.YtnahebfhhcebpaaGreatKFAt
import Derived.Test.YtnahebfhhcebpaaGreatKERefS
import Derived.Test.YtnahebfhhcebpaaGreatKJUnlike
section
open Go Go.RowKit
namespace TT
open SS RR WW BB FF
/-- a block's value -/
def bvV (x : Bv) : Value := .agg #[.int .i64 (viewI x.1), .int .i64 (propI x.1), .int .i64 (jvI x.1), .string (parI x.1), x.2.1, x.2.2]
def SmallD (b : BlockD) : Prop := (parI b).size ≤ 1000000 ∧ SmallS (sigsI b) ∧ SmallR b.2
end TT
namespace Go.Proofs.YtnahebfhhcebpaaGreat
open TT SS RR FF JJ CC WW BB
set_option maxRecDepth 100000 in
set_option maxHeartbeats 2000000 in
theorem rightst_any (v l : Int) (w : World) : Calls Tryz.prog 39 #[.agg #[.int .i64 v, .int .i64 l]] w fun e w' => e = .returned (.bool (decide (rightS (v, l)))) ∧ Below w.heap.size w w' := by
  have X1 := Lib.hid ((Below.refl w.heap.size w).alloc (Nat.le_refl _) (.cells #[.int .i64 v, .int .i64 l] 33))
  have hd : decide (rightS (v, l)) = (decide (0 ≤ v) && (decide (v ≤ 1000000) && (decide (0 ≤ l) && decide (l ≤ 1000000)))) := by
    rw [Bool.eq_iff_iff]
    simp [rightS]
    exact decide_eq_true_iff
  have HD := Lib.hid hd
  clear hd
  by_cases h1 : 0 ≤ v
  · have d1 : decide (0 ≤ v) = true := decide_eq_true h1
    by_cases h2 : v ≤ 1000000
    · have d2 : decide (v ≤ 1000000) = true := decide_eq_true h2
      by_cases h3 : 0 ≤ l
      · have d3 : decide (0 ≤ l) = true := decide_eq_true h3
        have E := Lib.hid (show decide (rightS (v, l)) = decide (l ≤ 1000000) by rw [HD.out, d1, d2, d3]; rfl)
        clear h1 h2 h3
        go_enter Tryz.func39, Tryz.ntmps39
        go_wp2_with fail
        go_ret
        exact ⟨by rw [E.out]; rfl, X1.out⟩
      · have d3 : decide (0 ≤ l) = false := decide_eq_false h3
        have E := Lib.hid (show decide (rightS (v, l)) = false by rw [HD.out, d1, d2, d3]; rfl)
        clear h1 h2 h3
        go_enter Tryz.func39, Tryz.ntmps39
        go_wp2_with fail
        go_ret
        exact ⟨by rw [E.out]; rfl, X1.out⟩
    · have d2 : decide (v ≤ 1000000) = false := decide_eq_false h2
      have E := Lib.hid (show decide (rightS (v, l)) = false by rw [HD.out, d1, d2]; rfl)
      clear h1 h2
      go_enter Tryz.func39, Tryz.ntmps39
      go_wp2_with fail
      go_ret
      exact ⟨by rw [E.out]; rfl, X1.out⟩
  · have d1 : decide (0 ≤ v) = false := decide_eq_false h1
    have E := Lib.hid (show decide (rightS (v, l)) = false by rw [HD.out, d1]; rfl)
    clear h1
    go_enter Tryz.func39, Tryz.ntmps39
    go_wp2_with fail
    go_ret
    exact ⟨by rw [E.out]; rfl, X1.out⟩
set_option maxRecDepth 100000 in
set_option maxHeartbeats 2000000 in
theorem rrec_any (v l : Int) (w : World) : Calls Tryz.prog 18 #[.agg #[.int .i64 v, .int .i64 l]] w fun e w' => e = .returned (.string (rcS (v, l))) ∧ Below w.heap.size w w' := by
  have X1 := Lib.hid ((Below.refl w.heap.size w).alloc (Nat.le_refl _) (.cells #[.int .i64 v, .int .i64 l] 33))
  have hno : ¬ 9223372036854775807 < (⟨#[83]⟩ : ByteArray).size + (bytesS v l).size := by rw [bytes_size]; decide
  go_enter Tryz.func18, Tryz.ntmps18
  go_wp2_with fail
  refine (rbytes_any v l _).mono ?_
  rintro e w1 ⟨rfl, hb1⟩
  have X2 := Lib.hid (X1.out.trans (hb1.mono X1.out.size))
  clear hb1
  go_wp2_with fail
  go_ret
  exact ⟨rfl, X2.out⟩
set_option maxRecDepth 100000 in
set_option maxHeartbeats 2000000 in
theorem rblockrec_any (x : Bv) (w : World) (hi : InnB w x) (hs : SmallD x.1) : Calls Tryz.prog 20 #[bvV x] w fun e w' => e = .returned (.string (rcB x.1)) ∧ Below w.heap.size w w' := by
  obtain ⟨⟨⟨⟨v, p⟩, ⟨⟨cv, k⟩, l⟩⟩, m⟩, sv, rv⟩ := x
  obtain ⟨h1, h2⟩ := hi
  obtain ⟨s1, s2, s3⟩ := hs
  replace h1 : SigsAt w sv l := h1
  replace h2 : ReqsAt w rv m := h2
  replace s1 : k.size ≤ 1000000 := s1
  replace s2 : SmallS l := s2
  replace s3 : SmallR m := s3
  have hno : ¬ 9223372036854775807 < (⟨#[66]⟩ : ByteArray).size + (blockB v p cv k l m).size := by
    unfold blockB
    simp only [ByteArray.size_append, num_size, certB_size, flat_size]
    have := s2.2.1; have := s3.2.1
    show ¬ 9223372036854775807 < 1 + _
    omega
  show Calls Tryz.prog 20 #[.agg #[.int .i64 v, .int .i64 p, .int .i64 cv, .string k, sv, rv]] w fun e w' => e = .returned (.string ((⟨#[66]⟩ : ByteArray) ++ blockB v p cv k l m)) ∧ Below w.heap.size w w'
  have HX := Lib.hid (fun wx (hb : Below w.heap.size w wx) => rblock_any v p cv k sv rv l m wx (h1.later hb) (h2.later hb) s1 s2 s3)
  obtain ⟨a0, cap, rfl, _⟩ := h1
  obtain ⟨a1, cap1, rfl, _⟩ := h2
  have X1 := Lib.hid ((Below.refl w.heap.size w).alloc (Nat.le_refl _) (.cells #[.int .i64 v, .int .i64 p, .int .i64 cv, .string k, .slice a0 l.length cap, .slice a1 m.length cap1] 47))
  clear s1 s2 s3
  go_enter Tryz.func20, Tryz.ntmps20
  go_wp2_with fail
  refine (HX.out _ X1.out).mono ?_
  rintro e w1 ⟨rfl, hb1⟩
  have X2 := Lib.hid (X1.out.trans (hb1.mono X1.out.size))
  clear hb1
  go_wp2_with fail
  go_ret
  exact ⟨rfl, X2.out⟩
/-- a state is read, or not -/
theorem readst_some (b : ByteArray) (s : StT) (w : World) (h : readS b = some s) : Calls Tryz.prog 43 #[.string b] w fun e w' => e = .returned (.tuple #[.agg #[.int .i64 s.1, .int .i64 s.2], .int .i64 0]) ∧ Below w.heap.size w w' := by
  have h8 : b.size = 8 := by
    unfold readS at h
    split at h
    · assumption
    · cases h
  unfold readS at h
  rw [if_pos h8] at h
  refine read_full b h8 _ _ rfl rfl s.1 s.2 0 ?_ w
  rw [h]; rfl
theorem readst_none (b : ByteArray) (w : World) (h : readS b = none) : Calls Tryz.prog 43 #[.string b] w fun e w' => e = .returned (.tuple #[.agg #[.int .i64 0, .int .i64 0], .int .i64 2]) ∧ Below w.heap.size w w' := by
  by_cases h8 : b.size = 8
  · unfold readS at h
    rw [if_pos h8] at h
    refine read_full b h8 _ _ rfl rfl 0 0 2 ?_ w
    rw [h]; rfl
  · exact read_short b h8 w
end Go.Proofs.YtnahebfhhcebpaaGreat
end
section
open Go Go.RowKit
namespace TT
open SS RR FF WW BB
/-- a save: its state, its blocks (a slice of them), a fuse, a crash -/
structure Op10 where
  s : StT
  lv : Value
  L : List Bv
  fz : Bool
  n : Int
  cr : Bool
  kp : Int
def op10 : Op10 := ⟨(0, 0), .slice none 0 0, [], false, 0, false, 0⟩
/-- a save's seven cells, and its blocks -/
def OpT (w : World) (b off : Nat) (o : Op10) : Prop :=
  w.cell? ⟨b, off, none⟩ = some (.int .i64 o.s.1) ∧ w.cell? ⟨b, off + 1, none⟩ = some (.int .i64 o.s.2) ∧ w.cell? ⟨b, off + 2, none⟩ = some o.lv ∧ w.cell? ⟨b, off + 3, none⟩ = some (.bool o.fz) ∧ w.cell? ⟨b, off + 4, none⟩ = some (.int .i64 o.n) ∧ w.cell? ⟨b, off + 5, none⟩ = some (.bool o.cr) ∧ w.cell? ⟨b, off + 6, none⟩ = some (.int .i64 o.kp) ∧ BvAt w o.lv o.L
theorem OpT.later {w w' : World} {b off : Nat} {o : Op10} (h : OpT w b off o) (hb : Below w.heap.size w w') (hl : b < w.heap.size) : OpT w' b off o := by
  obtain ⟨h0, h1, h2, h3, h4, h5, h6, h7⟩ := h
  have k : ∀ i u, w.cell? ⟨b, i, none⟩ = some u → w'.cell? ⟨b, i, none⟩ = some u := fun i u h => (hb.cell (p := ⟨b, i, none⟩) hl).trans h
  exact ⟨k _ _ h0, k _ _ h1, k _ _ h2, k _ _ h3, k _ _ h4, k _ _ h5, k _ _ h6, h7.later hb⟩
/-- v is a slice of saves -/
def OpsT (w : World) (v : Value) (l : List Op10) : Prop :=
  ∃ a0 cap, v = .slice a0 l.length cap ∧ (l = [] ∨ ∃ b off, a0 = some ⟨b, off, none⟩ ∧ b < w.heap.size ∧ ∀ i, i < l.length → OpT w b (off + i * 7) (l.getD i op10))
/-- it fits into memory -/
def MemT10 (o : Op10) : Prop := (∀ x ∈ o.L, MemI x.1) ∧ o.L.length ≤ 9223372036854775807 ∧ (-9223372036854775808 ≤ o.n ∧ o.n ≤ 9223372036854775807) ∧ (-9223372036854775808 ≤ o.kp ∧ o.kp ≤ 9223372036854775807)
def MemsT (l : List Op10) : Prop := l.length ≤ 9223372036854775807 ∧ ∀ o ∈ l, MemT10 o
theorem opsT_at {w : World} {a0 : Option Addr} {n cap : Nat} {l : List Op10} (h : OpsT w (.slice a0 n cap) l) (i : Nat) (hi : i < l.length) : ∃ b off, a0 = some ⟨b, off, none⟩ ∧ b < w.heap.size ∧ n = l.length ∧ ∀ wx, Below w.heap.size w wx → ∀ i, i < l.length → OpT wx b (off + i * 7) (l.getD i op10) := by
  obtain ⟨a, c, e, h⟩ := h
  injection e with e1 e2 e3
  subst e1 e2 e3
  rcases h with rfl | ⟨b, off, e, hl, hc⟩
  · simp at hi
  · exact ⟨b, off, e, hl, rfl, fun wx hb i hi => (hc i hi).later hb hl⟩
/-- a save of a size that is looked at -/
def FewO (o : Op10) : Prop := o.L.length ≤ 5 ∧ ∀ x ∈ o.L, fewI x.1 = true
def FewAns10 (l : List Op10) (n : Int) (w : World) (e : Ending) (w' : World) : Prop :=
  ∃ X : Bool, e = .returned (.bool X) ∧ (X = true → (l.length : Int) ≤ n ∧ ∀ i, i < l.length → i < 100 → FewO (l.getD i op10)) ∧ Below w.heap.size w w'
/-- may a save be? -/
def rightO (o : Op10) : Prop := rightS o.s ∧ ∀ x ∈ o.L, blockOk x.1
instance (b : BlockD) : Decidable (blockOk b) := by unfold blockOk; infer_instance
instance (o : Op10) : Decidable (rightO o) := by unfold rightO; infer_instance
end TT
namespace Go.Proofs.YtnahebfhhcebpaaGreat
open TT SS RR FF JJ CC MM WW BB
set_option maxRecDepth 100000 in
set_option maxHeartbeats 8000000 in
theorem few10_any (l : List Op10) (v : Value) (n : Int) (w : World) (hv : OpsT w v l) (hm : MemsT l) :
    Calls Tryz.prog 8 #[v, .int .i64 n] w (FewAns10 l n w) := by
  have HV := Lib.hid hv
  have HM := Lib.hid hm
  obtain ⟨a0, cap, rfl, _⟩ := hv
  clear hm
  go_enter Tryz.func8, Tryz.ntmps8
  go_wp2_with fail
  go_loopw [5] (fun y wr => ∃ i : Nat, i ≤ l.length ∧ i ≤ 100 ∧ y = .int .i64 (i : Int) ∧ (∀ j, j < i → FewO (l.getD j op10)) ∧ Below w.heap.size w wr) (fun y _ => 100 - (intOf y).toNat)
  case atStart => exact ⟨0, Nat.zero_le _, by omega, rfl, fun j hj => absurd hj (Nat.not_lt_zero _), Below.refl _ _⟩
  case round =>
    obtain ⟨i, hi, h100, rfl, hall, hb⟩ := hrel
    have HALL := Lib.hid hall
    have HB := Lib.hid hb
    have i0 : (0 : Int) ≤ (i : Int) := by omega
    have ib : (i : Int) ≤ 100 := by omega
    clear hall hb
    by_cases hlt : i < l.length ∧ i < 100
    · obtain ⟨hlt, h9⟩ := hlt
      have hlt' : (i : Int) < (l.length : Int) := by omega
      have h9' : (i : Int) < 100 := by omega
      have HLT := Lib.hid (And.intro hlt h9)
      obtain ⟨lb, loff, rfl, _, _, hat⟩ := opsT_at HV.out i hlt
      obtain ⟨P, hP⟩ : ∃ P, l.getD i op10 = P := ⟨_, rfl⟩
      have HPP := Lib.hid hP
      have HAT := Lib.hid (show ∀ wx, Below w.heap.size w wx → OpT wx lb (loff + i * 7) P from fun wx hb => hP ▸ hat wx hb i hlt)
      have HMP := Lib.hid (show MemT10 P from HM.out.2 P (by rw [← hP, getD_at hlt]; exact List.getElem_mem hlt))
      have h2 := (HAT.out wr HB.out).2.2.1
      have HBV := Lib.hid (HAT.out wr HB.out).2.2.2.2.2.2.2
      obtain ⟨pa, pc, hps⟩ := bv_shape HBV.out
      have HPS := Lib.hid hps
      rw [hps] at h2
      have HBS := Lib.hid (show BvAt wr (.slice pa P.L.length pc) P.L from hps ▸ HBV.out)
      clear hi h100 hlt h9 hat hP hps
      by_cases h5 : P.L.length ≤ 5
      · have h5' : ¬ (5 : Int) < (P.L.length : Int) := by omega
        have H5 := Lib.hid h5
        clear h5
        go_wp2_with fail
        obtain ⟨wz, rfl⟩ : ∃ wz, wz = wr := ⟨_, rfl⟩
        go_loopw [6] (fun y ws => ∃ k : Nat, k ≤ P.L.length ∧ y = .int .i64 (k : Int) ∧ (∀ j, j < k → fewI (P.L.getD j vb0).1 = true) ∧ Below w.heap.size w ws ∧ Below wz.heap.size wz ws) (fun y _ => P.L.length - (intOf y).toNat)
        case atStart => exact ⟨0, Nat.zero_le _, rfl, fun j hj => absurd hj (Nat.not_lt_zero _), HB.out, Below.refl _ _⟩
        case round =>
          obtain ⟨k, hk, rfl, hka, hkb, hkr⟩ := hrel
          have HKA := Lib.hid hka
          have HKB := Lib.hid hkb
          have HKR := Lib.hid hkr
          have k0 : (0 : Int) ≤ (k : Int) := by omega
          have kb : (k : Int) ≤ 5 := by have := H5.out; omega
          have h2' := (HAT.out wr HKB.out).2.2.1
          rw [HPS.out] at h2'
          clear hka hkb hkr h2
          by_cases hkl : k < P.L.length
          · have hkl' : (k : Int) < (P.L.length : Int) := by omega
            have HKL := Lib.hid hkl
            obtain ⟨qb, qoff, rfl, _, _, hq⟩ := bv_at HBS.out k hkl
            obtain ⟨c0, c1, c2, c3, c4, c5, hin⟩ := hq wr HKR.out k hkl
            obtain ⟨Q, hQ⟩ : ∃ Q, P.L.getD k vb0 = Q := ⟨_, rfl⟩
            have HQQ := Lib.hid hQ
            have HMM := Lib.hid (show MemI Q.1 by rw [← hQ, getD_at hkl]; exact HMP.out.1 _ (List.getElem_mem hkl))
            rw [hQ] at c0 c1 c2 c3 c4 c5 hin
            obtain ⟨⟨x, s4, s5⟩, rfl⟩ : ∃ R, Q = R := ⟨Q, rfl⟩
            obtain ⟨e5, n5, h5⟩ := sl_of_sigs hin.1
            obtain ⟨e6, n6, h6⟩ := sl_of_reqs hin.2
            replace h5 : s4 = .slice e5 (sigsI x).length n5 := h5
            replace h6 : s5 = .slice e6 x.2.length n6 := h6
            subst h5 h6
            have HIN := Lib.hid hin
            obtain ⟨bb, hbb⟩ : ∃ bb, fewI x = bb := ⟨_, rfl⟩
            have HBB := Lib.hid hbb
            clear hk hkl hq hQ hin hbb
            go_wp2_with fail
            refine (fewblock6_is (viewI x) (propI x) (jvI x) (parI x) _ _ (sigsI x) x.2 bb HBB.out wr HIN.out.1 HIN.out.2 HMM.out.1 HMM.out.2.1 HMM.out.2.2).mono ?_
            rintro e w2 ⟨rfl, hb2⟩
            have B2 := Lib.hid (HKB.out.trans (hb2.mono HKB.out.size))
            have R2 := Lib.hid (HKR.out.trans (hb2.mono HKR.out.size))
            clear hb2 c0 c1 c2 c3 c4 c5
            cases bb
            · go_wp2_with fail
              go_ret
              exact ⟨false, rfl, (fun h => by cases h), B2.out⟩
            · go_wp2_with fail
              go_roundw
              case rel => exact ⟨k + 1, by have := HKL.out; omega, by go_num, fun j hj => if h : j = k then by subst h; rw [HQQ.out]; exact HBB.out else HKA.out j (by omega), B2.out, R2.out⟩
              case measure => have := HKL.out; simp [intOf]; omega
          · obtain rfl : k = P.L.length := by omega
            have hkl' : ¬ ((P.L.length : Nat) : Int) < (P.L.length : Int) := by omega
            clear hk hkl
            go_wp2_with fail
            go_roundw
            case rel => exact ⟨i + 1, by have := HLT.out; omega, by have := HLT.out; omega, by go_num, fun j hj => if h : j = i then by
                subst h; rw [HPP.out]
                exact ⟨H5.out, fun x hx => by
                  obtain ⟨q, hq, rfl⟩ := List.getElem_of_mem hx
                  have := HKA.out q hq
                  rwa [getD_at hq] at this⟩
              else HALL.out j (by omega), HKB.out⟩
            case measure => have := HLT.out; simp [intOf]; omega
      · have h5' : (5 : Int) < (P.L.length : Int) := by omega
        clear h5
        go_wp2_with fail
        go_ret
        exact ⟨false, rfl, (fun h => by cases h), HB.out⟩
    · have HN := Lib.hid hlt
      have HI := Lib.hid (And.intro hi h100)
      have HLE := Lib.hid (show (l.length : Int) ≤ 9223372036854775807 by have := HM.out.1; omega)
      obtain ⟨X, hX⟩ : ∃ X : Bool, decide ((l.length : Int) ≤ n) = X := ⟨_, rfl⟩
      have HX := Lib.hid hX
      by_cases h1 : i < l.length
      · have h1' : (i : Int) < (l.length : Int) := by omega
        have h2' : ¬ (i : Int) < 100 := by omega
        clear hi h100 hlt h1
        go_wp2_with fail
        go_ret
        refine ⟨X, rfl, fun h => ⟨of_decide_eq_true (by rw [HX.out]; exact h), fun j hj h9 => HALL.out j ?_⟩, HB.out⟩
        have := HI.out; have := HN.out; omega
      · have h1' : ¬ (i : Int) < (l.length : Int) := by omega
        clear hi h100 hlt h1
        go_wp2_with fail
        go_ret
        refine ⟨X, rfl, fun h => ⟨of_decide_eq_true (by rw [HX.out]; exact h), fun j hj h9 => HALL.out j ?_⟩, HB.out⟩
        have := HI.out; have := HN.out; omega
end Go.Proofs.YtnahebfhhcebpaaGreat
end
section
open Go Go.RowKit
namespace TT
open SS RR FF WW BB
theorem row7_ (a b c d e f g : Value) : (#[a, b, c, d, e, f, g] : Array Value) = row 7 (rowL [a, b, c, d, e, f, g]) := rfl
def opV (o : Op10) : Value := .agg #[.int .i64 o.s.1, .int .i64 o.s.2, o.lv, .bool o.fz, .int .i64 o.n, .bool o.cr, .int .i64 o.kp]
end TT
namespace Go.Proofs.YtnahebfhhcebpaaGreat
open TT SS RR FF JJ CC MM WW BB
set_option maxRecDepth 100000 in
set_option maxHeartbeats 8000000 in
theorem right10_any (o : Op10) (w : World) (hv : BvAt w o.lv o.L) (hm : ∀ x ∈ o.L, MemI x.1) (hl : o.L.length ≤ 1000) :
    Calls Tryz.prog 21 #[opV o] w fun e w' => e = .returned (.bool (decide (rightO o))) ∧ Below w.heap.size w w' := by
  obtain ⟨⟨s1, s2⟩, lv, L, fz, n, cr, kp⟩ := o
  replace hv : BvAt w lv L := hv
  replace hm : ∀ x ∈ L, MemI x.1 := hm
  replace hl : L.length ≤ 1000 := hl
  unfold opV
  simp only
  obtain ⟨X, hX⟩ : ∃ X, decide (rightO ⟨(s1, s2), lv, L, fz, n, cr, kp⟩) = X := ⟨_, rfl⟩
  rw [hX]
  have HXY := Lib.hid (show (∀ x ∈ L, blockOk x.1) → X = decide (rightS (s1, s2)) from fun h => by rw [← hX]; exact decide_eq_decide.2 ⟨fun k => k.1, fun k => ⟨k, h⟩⟩)
  have HXN := Lib.hid (show (∃ x ∈ L, ¬ blockOk x.1) → X = false from fun ⟨x, hx, hn⟩ => by rw [← hX]; exact decide_eq_false fun k => hn (k.2 x hx))
  clear hX
  obtain ⟨a0, cap, rfl⟩ := bv_shape hv
  have HV := Lib.hid hv
  have HM := Lib.hid hm
  have HL := Lib.hid hl
  clear hv hm hl
  have X1 := Lib.hid ((Below.refl w.heap.size w).alloc (Nat.le_refl _) (.cells #[.int .i64 s1, .int .i64 s2, .slice a0 L.length cap, .bool fz, .int .i64 n, .bool cr, .int .i64 kp] 36))
  have Q1 := Lib.hid (show Blk (w.alloc (.cells #[.int .i64 s1, .int .i64 s2, .slice a0 L.length cap, .bool fz, .int .i64 n, .bool cr, .int .i64 kp] 36)) w.heap.size 7 (rowL [.int .i64 s1, .int .i64 s2, .slice a0 L.length cap, .bool fz, .int .i64 n, .bool cr, .int .i64 kp]) from Blk.new' rfl (row7_ _ _ _ _ _ _ _))
  obtain ⟨w1, hw1⟩ : ∃ w1, w.alloc (.cells #[.int .i64 s1, .int .i64 s2, .slice a0 L.length cap, .bool fz, .int .i64 n, .bool cr, .int .i64 kp] 36) = w1 := ⟨_, rfl⟩
  have HW1 := Lib.hid hw1
  rw [hw1] at X1 Q1
  clear hw1
  go_enter Tryz.func21, Tryz.ntmps21
  go_upto_region 1 with fail
  rw [HW1.out]
  go_wp2_with fail
  go_loopw [3] (fun y wr => ∃ k : Nat, k ≤ L.length ∧ y = .int .i64 (k : Int) ∧ (∀ j, j < k → blockOk (L.getD j vb0).1) ∧ Below w1.heap.size w1 wr) (fun y _ => L.length - (intOf y).toNat)
  case atStart => exact ⟨0, Nat.zero_le _, rfl, fun j hj => absurd hj (Nat.not_lt_zero _), Below.refl _ _⟩
  case round =>
    obtain ⟨k, hk, rfl, hka, hkb⟩ := hrel
    have HKA := Lib.hid hka
    have HKB := Lib.hid hkb
    have HKW := Lib.hid (X1.out.trans (hkb.mono X1.out.size))
    have k0 : (0 : Int) ≤ (k : Int) := by omega
    have kb : (k : Int) ≤ 1000 := by have := HL.out; omega
    have QK := Lib.hid (Q1.out.below hkb Q1.out.lt)
    have q0 : wr.cell? ⟨w.heap.size, 0, none⟩ = some (.int .i64 s1) := QK.out.get 0 (by omega)
    have q1 : wr.cell? ⟨w.heap.size, 1, none⟩ = some (.int .i64 s2) := QK.out.get 1 (by omega)
    have q2 : wr.cell? ⟨w.heap.size, 2, none⟩ = some (.slice a0 L.length cap) := QK.out.get 2 (by omega)
    clear hka hkb
    by_cases hkl : k < L.length
    · have hkl' : (k : Int) < (L.length : Int) := by omega
      have HKL := Lib.hid hkl
      obtain ⟨qb, qoff, rfl, _, _, hq⟩ := bv_at HV.out k hkl
      obtain ⟨c0, c1, c2, c3, c4, c5, hin⟩ := hq wr HKW.out k hkl
      obtain ⟨Q, hQ⟩ : ∃ Q, L.getD k vb0 = Q := ⟨_, rfl⟩
      have HQQ := Lib.hid hQ
      have HMM := Lib.hid (show MemI Q.1 by rw [← hQ, getD_at hkl]; exact HM.out _ (List.getElem_mem hkl))
      have HMQ := Lib.hid (show Q ∈ L by rw [← hQ, getD_at hkl]; exact List.getElem_mem hkl)
      rw [hQ] at c0 c1 c2 c3 c4 c5 hin
      obtain ⟨⟨⟨⟨⟨v, p⟩, ⟨⟨cv, kk⟩, ll⟩⟩, mm⟩, s4, s5⟩, rfl⟩ : ∃ R, Q = R := ⟨Q, rfl⟩
      obtain ⟨e5, n5, h5⟩ := sl_of_sigs hin.1
      obtain ⟨e6, n6, h6⟩ := sl_of_reqs hin.2
      replace h5 : s4 = .slice e5 ll.length n5 := h5
      replace h6 : s5 = .slice e6 mm.length n6 := h6
      subst h5 h6
      replace c0 : wr.cell? ⟨qb, qoff + k * 6, none⟩ = some (.int .i64 v) := c0
      replace c1 : wr.cell? ⟨qb, qoff + k * 6 + 1, none⟩ = some (.int .i64 p) := c1
      replace c2 : wr.cell? ⟨qb, qoff + k * 6 + 2, none⟩ = some (.int .i64 cv) := c2
      replace c3 : wr.cell? ⟨qb, qoff + k * 6 + 3, none⟩ = some (.string kk) := c3
      replace c4 : wr.cell? ⟨qb, qoff + k * 6 + 4, none⟩ = some (.slice e5 ll.length n5) := c4
      replace c5 : wr.cell? ⟨qb, qoff + k * 6 + 5, none⟩ = some (.slice e6 mm.length n6) := c5
      have HIN := Lib.hid (show SigsAt wr (.slice e5 ll.length n5) ll ∧ ReqsAt wr (.slice e6 mm.length n6) mm from hin)
      have HMS := Lib.hid (show MemS ll from HMM.out.1)
      obtain ⟨bb, hbb⟩ : ∃ bb, rightBlock v p cv kk ll mm = bb := ⟨_, rfl⟩
      have HBB := Lib.hid hbb
      have HC := Lib.hid (rightblock_any v p cv kk _ _ ll mm wr HIN.out.1 HIN.out.2 HMS.out)
      rw [hbb] at HC
      clear hk hkl hq hQ hin hbb
      go_wp2_with fail
      refine HC.out.mono ?_
      rintro e w2 ⟨rfl, hb2⟩
      have B2 := Lib.hid (HKB.out.trans (hb2.mono HKB.out.size))
      clear hb2 c0 c1 c2 c3 c4 c5 q0 q1 q2
      cases bb
      · go_wp2_with fail
        go_ret
        refine ⟨?_, X1.out.trans (B2.out.mono X1.out.size)⟩
        rw [HXN.out ⟨_, HMQ.out, fun h => by have h : rightBlock v p cv kk ll mm = true := h; rw [HBB.out] at h; cases h⟩]; rfl
      · go_wp2_with fail
        go_roundw
        case rel => exact ⟨k + 1, by have := HKL.out; omega, by go_num, fun j hj => if h : j = k then by subst h; rw [HQQ.out]; exact HBB.out else HKA.out j (by omega), B2.out⟩
        case measure => have := HKL.out; simp [intOf]; omega
    · obtain rfl : k = L.length := by omega
      have hkl' : ¬ ((L.length : Nat) : Int) < (L.length : Int) := by omega
      have HALL := Lib.hid (HXY.out fun x hx => by
        obtain ⟨q, hq, rfl⟩ := List.getElem_of_mem hx
        have := HKA.out q hq
        rwa [getD_at hq] at this)
      clear hk hkl
      go_wp2_with fail
      refine (rightst_any s1 s2 wr).mono ?_
      rintro e w2 ⟨rfl, hb2⟩
      have B2 := Lib.hid (HKW.out.trans (hb2.mono HKW.out.size))
      rw [← HALL.out]
      clear hb2 q0 q1 q2
      go_wp2_with fail
      go_ret
      exact ⟨rfl, B2.out⟩
end Go.Proofs.YtnahebfhhcebpaaGreat
end
section
open Go Go.RowKit
namespace TT
open SS RR WW BB FF
def zBlk : Value := .agg #[.int .i64 0, .int .i64 0, .int .i64 0, .string ⟨#[]⟩, .slice none 0 0, .slice none 0 0]
/-- what is answered of a record -/
def OneAns (w : World) (x : Option (StT ⊕ BlockD)) (e : Ending) (w' : World) : Prop :=
  match x with
  | none => e = .returned (.tuple #[.int .i64 0, .agg #[.int .i64 0, .int .i64 0], zBlk])
  | some (.inl s) => e = .returned (.tuple #[.int .i64 1, .agg #[.int .i64 s.1, .int .i64 s.2], zBlk])
  | some (.inr d) => ∃ sv rv, e = .returned (.tuple #[.int .i64 2, .agg #[.int .i64 0, .int .i64 0], bvV (d, sv, rv)]) ∧ Dep (fun b => w.heap.size ≤ b) w' (fun w'' => InnB w'' (d, sv, rv))
/-- the two boxes of the results -/
structure OneSt (w : World) (wr : World) : Prop where
  below : Below w.heap.size w wr
  st : Blk wr w.heap.size 2 (rowL [.int .i64 0, .int .i64 0])
  bl : Blk wr (w.heap.size + 1) 6 (rowL [.int .i64 0, .int .i64 0, .int .i64 0, .string ⟨#[]⟩, .slice none 0 0, .slice none 0 0])
theorem OneSt.on {w wr w' : World} (h : OneSt w wr) (hb : Below wr.heap.size wr w') : OneSt w w' := ⟨h.below.trans (hb.mono h.below.size), h.st.below hb h.st.lt, h.bl.below hb h.bl.lt⟩
theorem onest_mk (w : World) (t u : TypeId) : OneSt w ((w.alloc (.cells #[.int .i64 0, .int .i64 0] t)).alloc (.cells #[.int .i64 0, .int .i64 0, .int .i64 0, .string ⟨#[]⟩, .slice none 0 0, .slice none 0 0] u)) :=
  ⟨((Below.refl _ _).alloc (Nat.le_refl _) _).alloc (by simp) _, (Blk.new' rfl (row2_ _ _)).alloc _, Blk.new' (by simp) (row6_ _ _ _ _ _ _)⟩
theorem byte0 (r : ByteArray) (h : 0 < r.size) : (r[0].toNat : Int) = ((r.data.toList.getD 0 0).toNat : Int) := by rw [get_byte]
end TT
namespace Go.Proofs.YtnahebfhhcebpaaGreat
open TT SS RR FF JJ CC WW BB
/-- a block that was read rests upon new blocks of memory alone -/
theorem blockans_dep {w w' : World} {d : BlockD} {e : Ending} (h : BlockAns w (some d) e w') : ∃ sv rv, e = .returned (.tuple #[bvV (d, sv, rv), .int .i64 0]) ∧ Dep (fun b => w.heap.size ≤ b) w' (fun w'' => InnB w'' (d, sv, rv)) := by
  obtain ⟨f', lo, hi, rfl, hlo, hhi, hR⟩ := h
  refine ⟨f' 4, f' 5, ?_, fun w'' hK => ?_⟩
  · obtain ⟨sv, rv, hf, _, _⟩ := blockR_cells hR
    rw [hf]; rfl
  · obtain ⟨sv, rv, hf, hsv, hrv⟩ := blockR_cells ((sound_block 0).keep hR (w' := w'') fun k h1 h2 => hK.block k (Nat.le_trans hlo h1) (Nat.lt_of_lt_of_le h2 hhi))
    have e4 : f' 4 = sv := by rw [hf]; rfl
    have e5 : f' 5 = rv := by rw [hf]; rfl
    rw [e4, e5]; exact ⟨hsv, hrv⟩
end Go.Proofs.YtnahebfhhcebpaaGreat
end
section
open Go Go.RowKit
namespace TT
open SS RR FF WW BB
/-- what is remembered so far -/
structure RcSt (w0 : World) (tB : TypeId) (s : StT) (L : List Bv) (x : Value) (wr : World) : Prop where
  below : Below w0.heap.size w0 wr
  rb : Blk wr w0.heap.size 2 (rowL [.int .i64 0, .int .i64 0])
  sb : Blk wr (w0.heap.size + 1) 2 (rowL [.int .i64 s.1, .int .i64 s.2])
  row : wr.ownsRow (w0.heap.size + 2) tB 6 x L.length (cellsB L)
  inn : ∀ y ∈ L, Dep (fun b => w0.heap.size + 2 ≤ b ∧ x.ownBlock ≠ some b) wr (fun w' => InnB w' y)
section
variable {w0 wr w' : World} {tB : TypeId} {s : StT} {L : List Bv} {x : Value}
theorem RcSt.on (h : RcSt w0 tB s L x wr) (hb : Below wr.heap.size wr w') : RcSt w0 tB s L x w' :=
  ⟨h.below.trans (hb.mono h.below.size), h.rb.below hb h.rb.lt, h.sb.below hb h.sb.lt, row_keep h.row fun c hc => hb.block c (h.row.lt c hc).2, fun y hy => (h.inn y hy).on (Keeps.of hb)⟩
theorem RcSt.now (h : RcSt w0 tB s L x wr) : ∀ y ∈ L, InnB wr y := fun y hy => (h.inn y hy).now
theorem RcSt.bv (h : RcSt w0 tB s L x wr) : BvAt wr x L := bv_of_own h.row h.now
/-- another state -/
theorem RcSt.set (h : RcSt w0 tB s L x wr) {s' : StT} {wq : World} (hB : Blk wq (w0.heap.size + 1) 2 (rowL [.int .i64 s'.1, .int .i64 s'.2])) (hu : Upd (w0.heap.size + 1) wr wq) : RcSt w0 tB s' L x wq :=
  ⟨h.below.trans (hu.below (Nat.le_succ _)), h.rb.of_heap (hu.block _ (by omega)), hB, row_keep h.row fun c hc => hu.block c (by have := (h.row.lt c hc).1; omega), fun y hy => (h.inn y hy).on (Keeps.upd hu fun b hb => by have := hb.1; omega)⟩
/-- a block more, in a new row -/
theorem RcSt.add (h : RcSt w0 tB s L x wr) {x' : Value} {y : Bv} {base : Nat} (hb : wr.heap.size ≤ base) (hy : Dep (fun b => w0.heap.size + 2 ≤ b) wr (fun w' => InnB w' y)) (hk : Below wr.heap.size wr w')
    (hr : w'.ownsRow base tB 6 x' (L ++ [y]).length (cellsB (L ++ [y]))) : RcSt w0 tB s (L ++ [y]) x' w' := by
  have h1 := h.on hk
  have hs2 : w0.heap.size + 2 ≤ wr.heap.size := by have := h.sb.lt; omega
  have hne : ∀ b, b < wr.heap.size → x'.ownBlock ≠ some b := fun b hl e => by have := (hr.lt b e).1; omega
  refine ⟨h1.below, h1.rb, h1.sb, CC.own_base hr (by omega), fun z hz => ?_⟩
  rcases List.mem_append.1 hz with hz | hz
  · exact ((h.inn z hz).more (A' := fun b => w0.heap.size + 2 ≤ b ∧ x'.ownBlock ≠ some b) fun b hb hl => ⟨hb.1, hne b hl⟩).on (Keeps.of hk)
  · rw [List.mem_singleton.1 hz]
    exact (hy.more (A' := fun b => w0.heap.size + 2 ≤ b ∧ x'.ownBlock ≠ some b) fun b hb hl => ⟨hb, hne b hl⟩).on (Keeps.of hk)
end
theorem rc_start (w : World) (t tB : TypeId) : RcSt w tB (0, 0) [] (.slice none 0 0) ((w.alloc (.cells #[.int .i64 0, .int .i64 0] t)).alloc (.cells #[.int .i64 0, .int .i64 0] t)) :=
  ⟨((Below.refl _ _).alloc (Nat.le_refl _) _).alloc (by simp) _, (Blk.new' rfl (row2_ _ _)).alloc _, Blk.new' (by simp) (row2_ _ _), World.ownsRow_nil _ _ _ _, fun y hy => by cases hy⟩
theorem cellsT_one {w : World} {L : List Bv} (h : ∀ x ∈ L, InnB w x) : ∀ y ∈ cellsB L, y.oneCell' = true := by
  intro y hy
  unfold cellsB at hy
  obtain ⟨c, hc, hyc⟩ := List.mem_flatten.1 hy
  obtain ⟨x, hx, rfl⟩ := List.mem_map.1 hc
  obtain ⟨h1, h2⟩ := h x hx
  obtain ⟨a0, c0, e0, _⟩ := h1
  obtain ⟨a1, c1, e1, _⟩ := h2
  unfold encB at hyc
  rw [e0, e1] at hyc
  simp only [List.mem_cons, List.not_mem_nil, or_false] at hyc
  rcases hyc with rfl | rfl | rfl | rfl | rfl | rfl <;> rfl
theorem take_step {l : List ByteArray} {i : Nat} (h : i < l.length) : l.take (i + 1) = l.take i ++ [l.getD i ⟨#[]⟩] := by
  rw [List.take_add_one, List.getElem?_eq_getElem h, List.getD_eq_getElem?_getD, List.getElem?_eq_getElem h]; rfl
theorem rec_step {l : List ByteArray} {i : Nat} (h : i < l.length) (hg : GoodL (l.take i)) {M : MemT} (hM : recallL (l.take i) ((0, 0), []) = M) {x : StT ⊕ BlockD} (hx : oneD (l.getD i ⟨#[]⟩) = some x) : GoodL (l.take (i + 1)) ∧ recallL (l.take (i + 1)) ((0, 0), []) = stepR M x := by
  rw [take_step h]
  refine ⟨hg.append fun r hr => by rw [List.mem_singleton.1 hr, hx]; rfl, ?_⟩
  rw [recall_append _ _ _ hg, hM, recall_cons hx]; rfl
theorem rec_halt {l : List ByteArray} {i : Nat} (h : i < l.length) (hg : GoodL (l.take i)) {M : MemT} (hM : recallL (l.take i) ((0, 0), []) = M) (hx : oneD (l.getD i ⟨#[]⟩) = none) : recallL l ((0, 0), []) = M := by
  have e : l = l.take i ++ (l.getD i ⟨#[]⟩ :: l.drop (i + 1)) := by
    rw [List.getD_eq_getElem?_getD, List.getElem?_eq_getElem h]
    show l = l.take i ++ (l[i] :: l.drop (i + 1))
    rw [← List.drop_eq_getElem_cons h, List.take_append_drop]
  rw [e, recall_append _ _ _ hg, hM, recall_stop hx]
end TT
namespace Go.Proofs.YtnahebfhhcebpaaGreat
open TT SS RR FF JJ CC MM WW BB
theorem tinfo_blk : (Tryz.prog.info? 47).map (fun i => (i.zero, i.size, i.bytes)) = some (some (.agg #[.int .i64 0, .int .i64 0, .int .i64 0, .string ⟨#[]⟩, .slice none 0 0, .slice none 0 0]), 6, 88) := by kernel_rfl
theorem tund_blks : Tryz.prog.underlying 34 = some (.slice 47) := by kernel_rfl
end Go.Proofs.YtnahebfhhcebpaaGreat
end
section
open Go Go.RowKit
namespace TT
open SS RR FF WW BB
/-- the blocks' bytes -/
def textsB (L : List Bv) : List ByteArray := L.map fun x => blockD x.1
theorem texts_getD {L : List Bv} {i : Nat} (h : i < L.length) : (textsB L).getD i ⟨#[]⟩ = blockD (L.getD i vb0).1 := by
  unfold textsB
  simp [List.getD, List.getElem?_eq_getElem h]
theorem texts_len (L : List Bv) : (textsB L).length = L.length := by unfold textsB; rw [List.length_map]
end TT
namespace Go.Proofs.YtnahebfhhcebpaaGreat
open TT SS RR FF JJ CC WW BB
theorem rblockV_any (x : Bv) (w : World) (hi : InnB w x) (hs : SmallD x.1) : Calls Tryz.prog 33 #[bvV x] w fun e w' => e = .returned (.string (blockD x.1)) ∧ Below w.heap.size w w' :=
  rblock_any (viewI x.1) (propI x.1) (jvI x.1) (parI x.1) x.2.1 x.2.2 (sigsI x.1) x.1.2 w hi.1 hi.2 hs.1 hs.2.1 hs.2.2
/-- what is known of one block of a slice, at every later world -/
theorem bv_call {w : World} {a0 : Option Addr} {n c : Nat} {L : List Bv} (h : BvAt w (.slice a0 n c) L) (hs : ∀ x ∈ L, SmallD x.1) (i : Nat) (hi : i < L.length) : ∃ b off, a0 = some ⟨b, off, none⟩ ∧ n = L.length ∧ ∃ (pv pp pj : Int) (pk : ByteArray) (ps pr : Value),
    (∀ wx, Below w.heap.size w wx → wx.cell? ⟨b, off + i * 6, none⟩ = some (.int .i64 pv) ∧ wx.cell? ⟨b, off + i * 6 + 1, none⟩ = some (.int .i64 pp) ∧ wx.cell? ⟨b, off + i * 6 + 2, none⟩ = some (.int .i64 pj) ∧ wx.cell? ⟨b, off + i * 6 + 3, none⟩ = some (.string pk) ∧ wx.cell? ⟨b, off + i * 6 + 4, none⟩ = some ps ∧ wx.cell? ⟨b, off + i * 6 + 5, none⟩ = some pr) ∧
    (∀ wx, Below w.heap.size w wx → Calls Tryz.prog 33 #[.agg #[.int .i64 pv, .int .i64 pp, .int .i64 pj, .string pk, ps, pr]] wx fun e w' => e = .returned (.string ((textsB L).getD i ⟨#[]⟩)) ∧ Below wx.heap.size wx w') := by
  obtain ⟨b, off, e1, hb, e2, hc⟩ := bv_at h i hi
  refine ⟨b, off, e1, e2, viewI (L.getD i vb0).1, propI (L.getD i vb0).1, jvI (L.getD i vb0).1, parI (L.getD i vb0).1, (L.getD i vb0).2.1, (L.getD i vb0).2.2, fun wx hw => ?_, fun wx hw => ?_⟩
  · obtain ⟨h0, h1, h2, h3, h4, h5, _⟩ := hc wx hw i hi
    exact ⟨h0, h1, h2, h3, h4, h5⟩
  · obtain ⟨_, _, _, _, _, _, h6⟩ := hc wx hw i hi
    rw [texts_getD hi]
    exact rblockV_any (L.getD i vb0) wx h6 (hs _ (by rw [getD_at hi]; exact List.getElem_mem hi))
set_option maxRecDepth 100000 in
set_option maxHeartbeats 8000000 in
theorem rsame10_any (L M : List Bv) (v u : Value) (w : World) (hv : BvAt w v L) (hu : BvAt w u M) (hs : ∀ x ∈ L, SmallD x.1) (ht : ∀ x ∈ M, SmallD x.1) (hl : L.length ≤ 1000000) :
    Calls Tryz.prog 14 #[v, u] w fun e w' => e = .returned (.bool (decide (textsB L = textsB M))) ∧ Below w.heap.size w w' := by
  have HV := Lib.hid hv
  have HU := Lib.hid hu
  have HL := Lib.hid hl
  have HSM := Lib.hid hs
  have HTM := Lib.hid ht
  obtain ⟨a0, cap, rfl⟩ := bv_shape hv
  obtain ⟨b0, bap, rfl⟩ := bv_shape hu
  clear hl hv hu hs ht
  by_cases hlm : L.length = M.length
  · have HLM := Lib.hid hlm
    have t0 : ((L.length : Int) != (M.length : Int)) = false := by rw [hlm]; simp
    clear hlm
    obtain ⟨X, hX⟩ : ∃ X, decide (textsB L = textsB M) = X := ⟨_, rfl⟩
    have HX := Lib.hid hX
    rw [hX]
    clear hX
    go_enter Tryz.func14, Tryz.ntmps14
    go_wp2_with fail
    clear t0
    go_loopw [5] (fun v wr => ∃ i : Nat, i ≤ L.length ∧ v = .int .i64 (i : Int) ∧ (∀ j, j < i → (textsB L).getD j ⟨#[]⟩ = (textsB M).getD j ⟨#[]⟩) ∧ Below w.heap.size w wr) (fun v _ => L.length - (intOf v).toNat)
    case atStart => exact ⟨0, Nat.zero_le _, rfl, fun j hj => absurd hj (Nat.not_lt_zero _), Below.refl _ _⟩
    case round =>
      obtain ⟨i, hi, rfl, hal, hb⟩ := hrel
      have HALL := Lib.hid hal
      have HB := Lib.hid hb
      have i0 : (0 : Int) ≤ (i : Int) := by omega
      have ib : (i : Int) ≤ 1000000 := by have := HL.out; omega
      clear hal hb
      by_cases hlt : i < L.length
      · have hlt' : (i : Int) < (L.length : Int) := by omega
        have hlt2 : (i : Int) < (M.length : Int) := by rw [← HLM.out]; omega
        have HLT := Lib.hid hlt
        obtain ⟨gb, off, rfl, -, pv, pp, pj, pk, ps, pr, hc1, hk1⟩ := bv_call HV.out HSM.out i hlt
        obtain ⟨gb2, off2, rfl, -, qv, qp, qj, qk, qs, qr, hc2, hk2⟩ := bv_call HU.out HTM.out i (by omega)
        obtain ⟨x, hx⟩ : ∃ x, (textsB L).getD i ⟨#[]⟩ = x := ⟨_, rfl⟩
        obtain ⟨y, hy⟩ : ∃ y, (textsB M).getD i ⟨#[]⟩ = y := ⟨_, rfl⟩
        rw [hx] at hk1
        rw [hy] at hk2
        have HXY := Lib.hid (And.intro hx hy)
        have C1 := Lib.hid hc1
        have C2 := Lib.hid hc2
        have E1 := Lib.hid hk1
        have E2 := Lib.hid hk2
        clear hi hlt hx hy hc1 hc2 hk1 hk2
        go_wp2_with fail
        refine plan_abs (fun wx => Below w.heap.size w wx) [(true, 0), (true, 1), (true, 2), (true, 3), (true, 5), (true, 6), (true, 7), (true, 8), (false, 4), (false, 9), (true, 10)] (by kernel_rfl) (by kernel_rfl) (fun _ _ d _ _ h => by cases d <;> exact h) fun w5 hs5 => ⟨HB.out.trans ((hs5.below _).mono HB.out.size), ?_⟩
        have B5 := Lib.hid (HB.out.trans ((hs5.below _).mono HB.out.size))
        clear hs5
        iterate 8 (refine pl_run _ ?_ rfl rfl ?_ ?_; rotate_left; (focus (intro w' hS; obtain ⟨c0, c1, c2, c3, c4, c5⟩ := C1.out w' hS; obtain ⟨d0, d1, d2, d3, d4, d5⟩ := C2.out w' hS; go_simp; exact rfl)); simp only [Act.put, List.setIfInBounds_toArray, List.set_cons_zero, List.set_cons_succ, List.getElem_toArray, List.getElem_cons_zero, List.getElem_cons_succ])
        refine pl_call1 (v := .string x) (R := fun w' => Below w5.heap.size w5 w') _ rfl rfl (by go_simp) (E1.out w5 B5.out) (fun w' h => B5.out.trans (h.mono B5.out.size)) fun w6 h6 => ?_
        have B6 := Lib.hid (B5.out.trans (h6.mono B5.out.size))
        clear h6
        simp only [Act.put, List.setIfInBounds_toArray, List.set_cons_zero, List.set_cons_succ, List.getElem_toArray, List.getElem_cons_zero, List.getElem_cons_succ]
        refine pl_call1 (v := .string y) (R := fun w' => Below w6.heap.size w6 w') _ rfl rfl (by go_simp) (E2.out w6 B6.out) (fun w' h => B6.out.trans (h.mono B6.out.size)) fun w7 h7 => ?_
        have B7 := Lib.hid (B6.out.trans (h7.mono B6.out.size))
        clear h7
        simp only [Act.put, List.setIfInBounds_toArray, List.set_cons_zero, List.set_cons_succ, List.getElem_toArray, List.getElem_cons_zero, List.getElem_cons_succ]
        by_cases he : x = y
        · have t1 : (x.toList == y.toList) = true := by rw [he]; simp
          have HE := Lib.hid he
          clear he
          iterate 1 (refine pl_run _ ?_ rfl rfl ?_ ?_; rotate_left; (focus (intro w' hS; go_simp; exact rfl)); simp only [Act.put, List.setIfInBounds_toArray, List.set_cons_zero, List.set_cons_succ, List.getElem_toArray, List.getElem_cons_zero, List.getElem_cons_succ])
          refine pl_end ?_
          go_wp2_with fail
          go_roundw
          case rel => exact ⟨i + 1, by have := HLT.out; omega, by go_num, fun j hj => if h : j = i then by subst h; rw [HXY.out.1, HXY.out.2]; exact HE.out else HALL.out j (by omega), B7.out⟩
          case measure => have := HLT.out; simp [intOf]; omega
        · have t1 := ba_beq he
          have HE := Lib.hid he
          clear he
          iterate 1 (refine pl_run _ ?_ rfl rfl ?_ ?_; rotate_left; (focus (intro w' hS; go_simp; exact rfl)); simp only [Act.put, List.setIfInBounds_toArray, List.set_cons_zero, List.set_cons_succ, List.getElem_toArray, List.getElem_cons_zero, List.getElem_cons_succ])
          refine pl_end ?_
          go_wp2_with fail
          go_ret
          refine ⟨?_, B7.out⟩
          have hne : textsB L ≠ textsB M := list_ne_at (d := ⟨#[]⟩) (i := i) (by rw [HXY.out.1, HXY.out.2]; exact HE.out)
          rw [← HX.out]; simp [hne]
      · obtain rfl : i = L.length := by omega
        have hlt' : ¬ (L.length : Int) < (L.length : Int) := by omega
        clear hi hlt
        go_wp2_with fail
        go_ret
        refine ⟨?_, HB.out⟩
        have he : textsB L = textsB M := list_eq_at (by rw [texts_len, texts_len]; exact HLM.out) (fun j hj => HALL.out j (by rwa [texts_len] at hj))
        rw [← HX.out]; simp [he]
  · have t0 : ((L.length : Int) != (M.length : Int)) = true := by rw [bne_iff_ne]; omega
    have HLM := Lib.hid hlm
    clear hlm
    go_enter Tryz.func14, Tryz.ntmps14
    go_wp2_with fail
    go_ret
    refine ⟨?_, Below.refl _ _⟩
    have hne : textsB L ≠ textsB M := fun h => HLM.out (by have := congrArg List.length h; rwa [texts_len, texts_len] at this)
    simp [hne]
end Go.Proofs.YtnahebfhhcebpaaGreat
end
