/-
  The walk of the reference's comparison of two lists of blocks.
-/
import Derived.Test.YtnahebfhhcebpaaKTMath
import Derived.Test.YtnahebfhhcebpaaKFAdopt
import Derived.Test.YtnahebfhhcebpaaKWRef2
import Derived.Test.YtnahebfhhcebpaaKTApp
import Derived.Test.YtnahebfhhcebpaaKGMath
import Derived.Test.YtnahebfhhcebpaaKWLawB
import Derived.Test.YtnahebfhhcebpaaKPlanT
import Derived.Test.YtnahebfhhcebpaaKJRow
import Derived.Test.YtnahebfhhcebpaaKFAt
import Derived.Test.YtnahebfhhcebpaaKPlanE
import Derived.Test.YtnahebfhhcebpaaKERefS
import Derived.Test.YtnahebfhhcebpaaKJUnlike
section
open Go Go.RowKit
namespace TT
open SS RR WW BB FF
/-- a block's value -/
def bvV (x : Bv) : Value := .agg #[.int .i64 (viewI x.1), .int .i64 (propI x.1), .int .i64 (jvI x.1), .string (parI x.1), x.2.1, x.2.2]
def SmallD (b : BlockD) : Prop := (parI b).size ≤ 1000000 ∧ SmallS (sigsI b) ∧ SmallR b.2
end TT
namespace Go.Proofs.Ytnahebfhhcebpaa
open TT SS RR FF JJ CC WW BB
/-- a state is read, or not -/
theorem readst_some (b : ByteArray) (s : StT) (w : World) (h : readS b = some s) : Calls Try.prog 30 #[.string b] w fun e w' => e = .returned (.tuple #[.agg #[.int .i64 s.1, .int .i64 s.2], .int .i64 0]) ∧ Below w.heap.size w w' := by
  have h8 : b.size = 8 := by
    unfold readS at h
    split at h
    · assumption
    · cases h
  unfold readS at h
  rw [if_pos h8] at h
  refine read_full b h8 _ _ rfl rfl s.1 s.2 0 ?_ w
  rw [h]; rfl
theorem readst_none (b : ByteArray) (w : World) (h : readS b = none) : Calls Try.prog 30 #[.string b] w fun e w' => e = .returned (.tuple #[.agg #[.int .i64 0, .int .i64 0], .int .i64 2]) ∧ Below w.heap.size w w' := by
  by_cases h8 : b.size = 8
  · unfold readS at h
    rw [if_pos h8] at h
    refine read_full b h8 _ _ rfl rfl 0 0 2 ?_ w
    rw [h]; rfl
  · exact read_short b h8 w
end Go.Proofs.Ytnahebfhhcebpaa
end
section
open Go Go.RowKit
namespace TT
open SS RR FF WW BB
/-- a save: its state, its blocks (a slice of them), a fuse, a crash -/
structure Op10 where
  s : StT
  lv : Value
  L : List Bv
  fz : Bool
  n : Int
  cr : Bool
  kp : Int
def op10 : Op10 := ⟨(0, 0), .slice none 0 0, [], false, 0, false, 0⟩
/-- a save's seven cells, and its blocks -/
def OpT (w : World) (b off : Nat) (o : Op10) : Prop :=
  w.cell? ⟨b, off, none⟩ = some (.int .i64 o.s.1) ∧ w.cell? ⟨b, off + 1, none⟩ = some (.int .i64 o.s.2) ∧ w.cell? ⟨b, off + 2, none⟩ = some o.lv ∧ w.cell? ⟨b, off + 3, none⟩ = some (.bool o.fz) ∧ w.cell? ⟨b, off + 4, none⟩ = some (.int .i64 o.n) ∧ w.cell? ⟨b, off + 5, none⟩ = some (.bool o.cr) ∧ w.cell? ⟨b, off + 6, none⟩ = some (.int .i64 o.kp) ∧ BvAt w o.lv o.L
theorem OpT.later {w w' : World} {b off : Nat} {o : Op10} (h : OpT w b off o) (hb : Below w.heap.size w w') (hl : b < w.heap.size) : OpT w' b off o := by
  obtain ⟨h0, h1, h2, h3, h4, h5, h6, h7⟩ := h
  have k : ∀ i u, w.cell? ⟨b, i, none⟩ = some u → w'.cell? ⟨b, i, none⟩ = some u := fun i u h => (hb.cell (p := ⟨b, i, none⟩) hl).trans h
  exact ⟨k _ _ h0, k _ _ h1, k _ _ h2, k _ _ h3, k _ _ h4, k _ _ h5, k _ _ h6, h7.later hb⟩
/-- v is a slice of saves -/
def OpsT (w : World) (v : Value) (l : List Op10) : Prop :=
  ∃ a0 cap, v = .slice a0 l.length cap ∧ (l = [] ∨ ∃ b off, a0 = some ⟨b, off, none⟩ ∧ b < w.heap.size ∧ ∀ i, i < l.length → OpT w b (off + i * 7) (l.getD i op10))
/-- it fits into memory -/
def MemT10 (o : Op10) : Prop := (∀ x ∈ o.L, MemI x.1) ∧ o.L.length ≤ 9223372036854775807 ∧ (-9223372036854775808 ≤ o.n ∧ o.n ≤ 9223372036854775807) ∧ (-9223372036854775808 ≤ o.kp ∧ o.kp ≤ 9223372036854775807)
def MemsT (l : List Op10) : Prop := l.length ≤ 9223372036854775807 ∧ ∀ o ∈ l, MemT10 o
theorem opsT_at {w : World} {a0 : Option Addr} {n cap : Nat} {l : List Op10} (h : OpsT w (.slice a0 n cap) l) (i : Nat) (hi : i < l.length) : ∃ b off, a0 = some ⟨b, off, none⟩ ∧ b < w.heap.size ∧ n = l.length ∧ ∀ wx, Below w.heap.size w wx → ∀ i, i < l.length → OpT wx b (off + i * 7) (l.getD i op10) := by
  obtain ⟨a, c, e, h⟩ := h
  injection e with e1 e2 e3
  subst e1 e2 e3
  rcases h with rfl | ⟨b, off, e, hl, hc⟩
  · simp at hi
  · exact ⟨b, off, e, hl, rfl, fun wx hb i hi => (hc i hi).later hb hl⟩
/-- a save of a size that is looked at -/
def FewO (o : Op10) : Prop := o.L.length ≤ 5 ∧ ∀ x ∈ o.L, fewI x.1 = true
def FewAns10 (l : List Op10) (n : Int) (w : World) (e : Ending) (w' : World) : Prop :=
  ∃ X : Bool, e = .returned (.bool X) ∧ (X = true → (l.length : Int) ≤ n ∧ ∀ i, i < l.length → i < 100 → FewO (l.getD i op10)) ∧ Below w.heap.size w w'
/-- may a save be? -/
def rightO (o : Op10) : Prop := rightS o.s ∧ ∀ x ∈ o.L, blockOk x.1
instance (b : BlockD) : Decidable (blockOk b) := by unfold blockOk; infer_instance
instance (o : Op10) : Decidable (rightO o) := by unfold rightO; infer_instance
end TT
namespace Go.Proofs.Ytnahebfhhcebpaa
open TT SS RR FF JJ CC MM WW BB
end Go.Proofs.Ytnahebfhhcebpaa
end
section
open Go Go.RowKit
namespace TT
open SS RR WW BB FF
def zBlk : Value := .agg #[.int .i64 0, .int .i64 0, .int .i64 0, .string ⟨#[]⟩, .slice none 0 0, .slice none 0 0]
/-- what is answered of a record -/
def OneAns (w : World) (x : Option (StT ⊕ BlockD)) (e : Ending) (w' : World) : Prop :=
  match x with
  | none => e = .returned (.tuple #[.int .i64 0, .agg #[.int .i64 0, .int .i64 0], zBlk])
  | some (.inl s) => e = .returned (.tuple #[.int .i64 1, .agg #[.int .i64 s.1, .int .i64 s.2], zBlk])
  | some (.inr d) => ∃ sv rv, e = .returned (.tuple #[.int .i64 2, .agg #[.int .i64 0, .int .i64 0], bvV (d, sv, rv)]) ∧ Dep (fun b => w.heap.size ≤ b) w' (fun w'' => InnB w'' (d, sv, rv))
/-- the two boxes of the results -/
structure OneSt (w : World) (wr : World) : Prop where
  below : Below w.heap.size w wr
  st : Blk wr w.heap.size 2 (rowL [.int .i64 0, .int .i64 0])
  bl : Blk wr (w.heap.size + 1) 6 (rowL [.int .i64 0, .int .i64 0, .int .i64 0, .string ⟨#[]⟩, .slice none 0 0, .slice none 0 0])
theorem OneSt.on {w wr w' : World} (h : OneSt w wr) (hb : Below wr.heap.size wr w') : OneSt w w' := ⟨h.below.trans (hb.mono h.below.size), h.st.below hb h.st.lt, h.bl.below hb h.bl.lt⟩
theorem onest_mk (w : World) (t u : TypeId) : OneSt w ((w.alloc (.cells #[.int .i64 0, .int .i64 0] t)).alloc (.cells #[.int .i64 0, .int .i64 0, .int .i64 0, .string ⟨#[]⟩, .slice none 0 0, .slice none 0 0] u)) :=
  ⟨((Below.refl _ _).alloc (Nat.le_refl _) _).alloc (by simp) _, (Blk.new' rfl (row2_ _ _)).alloc _, Blk.new' (by simp) (row6_ _ _ _ _ _ _)⟩
theorem byte0 (r : ByteArray) (h : 0 < r.size) : (r[0].toNat : Int) = ((r.data.toList.getD 0 0).toNat : Int) := by rw [get_byte]
end TT
namespace Go.Proofs.Ytnahebfhhcebpaa
open TT SS RR FF JJ CC WW BB
/-- a block that was read rests upon new blocks of memory alone -/
theorem blockans_dep {w w' : World} {d : BlockD} {e : Ending} (h : BlockAns w (some d) e w') : ∃ sv rv, e = .returned (.tuple #[bvV (d, sv, rv), .int .i64 0]) ∧ Dep (fun b => w.heap.size ≤ b) w' (fun w'' => InnB w'' (d, sv, rv)) := by
  obtain ⟨f', lo, hi, rfl, hlo, hhi, hR⟩ := h
  refine ⟨f' 4, f' 5, ?_, fun w'' hK => ?_⟩
  · obtain ⟨sv, rv, hf, _, _⟩ := blockR_cells hR
    rw [hf]; rfl
  · obtain ⟨sv, rv, hf, hsv, hrv⟩ := blockR_cells ((sound_block 0).keep hR (w' := w'') fun k h1 h2 => hK.block k (Nat.le_trans hlo h1) (Nat.lt_of_lt_of_le h2 hhi))
    have e4 : f' 4 = sv := by rw [hf]; rfl
    have e5 : f' 5 = rv := by rw [hf]; rfl
    rw [e4, e5]; exact ⟨hsv, hrv⟩
set_option maxRecDepth 100000 in
set_option maxHeartbeats 4000000 in
theorem one_none (r : ByteArray) (hr : r.size ≤ 1000000) (h : oneD r = none) (w : World) : Calls Try.prog 17 #[.string r] w fun e w' => OneAns w none e w' ∧ Below w.heap.size w w' := by
  have K0 := Lib.hid (onest_mk w 26 51)
  have HR := Lib.hid hr
  obtain ⟨c, hc⟩ : ∃ c : Nat, (r.data.toList.getD 0 0).toNat = c := ⟨_, rfl⟩
  have hS : c = 83 ∧ r.size = 9 → readS (r.extract 1 r.size) = none := fun ⟨h1, h2⟩ => by
    unfold oneD at h
    rw [if_pos ⟨h2, UInt8.toNat_inj.1 (by rw [hc, h1]; rfl)⟩] at h
    cases hx : readS (r.extract 1 r.size) with
    | none => rfl
    | some s => rw [hx] at h; cases h
  have hB : c = 66 ∧ 1 < r.size → blockRd (r.extract 1 r.size) = none := fun ⟨h1, h2⟩ => by
    unfold oneD at h
    have h66 : r.data.toList.getD 0 0 = 66 := UInt8.toNat_inj.1 (by rw [hc, h1]; rfl)
    rw [if_neg (fun k => by have := k.2; rw [h66] at this; exact absurd this (by decide)), if_pos ⟨h2, h66⟩] at h
    cases hx : blockRd (r.extract 1 r.size) with
    | none => rfl
    | some s => rw [hx] at h; cases h
  have HS := Lib.hid hS
  have HB := Lib.hid hB
  have HRS := Lib.hid (show (r.extract 1 r.size).size ≤ 1000000 by rw [ByteArray.size_extract]; omega)
  clear h hS hB hr
  obtain ⟨w0, hw0⟩ : ∃ w0, (w.alloc (.cells #[.int .i64 0, .int .i64 0] 26)).alloc (.cells #[.int .i64 0, .int .i64 0, .int .i64 0, .string ⟨#[]⟩, .slice none 0 0, .slice none 0 0] 51) = w0 := ⟨_, rfl⟩
  have HW0 := Lib.hid hw0
  rw [hw0] at K0
  clear hw0
  by_cases h1 : 1 < r.size
  · have g0' : 0 < r.size := by omega
    have g0 : (0 : Int) < (r.size : Int) := by omega
    have e0 := byte0 r g0'
    rw [hc] at e0
    have q2 : (1 : Int) < (r.size : Int) := by omega
    have q3 : (1 : Int) ≤ (r.size : Int) := by omega
    by_cases h9 : r.size = 9
    · have q1 : (r.size : Int) = 9 := by omega
      by_cases h83 : c = 83
      · have d1 : ((c : Int) == 83) = true := by simp; omega
        have d2 : ((c : Int) == 66) = false := by simp; omega
        have HRD := Lib.hid (HS.out ⟨h83, h9⟩)
        clear h9 h83 hc h1
        go_enter Try.func17, Try.ntmps17
        go_upto_region 1 with fail
        rw [HW0.out]
        go_wp2_with fail
        refine (readst_none _ _ HRD.out).mono ?_
        rintro e w1 ⟨rfl, hb1⟩
        have K1 := Lib.hid (K0.out.on hb1)
        clear hb1
        go_upto_region 9 with fail
        obtain ⟨wz, hwz⟩ : ∃ wz, w1.alloc (.cells #[.int .i64 0, .int .i64 0] 26) = wz := ⟨_, rfl⟩
        have KY := Lib.hid (show OneSt w (w1.alloc (.cells #[.int .i64 0, .int .i64 0] 26)) from K1.out.on ((Below.refl _ w1).alloc (Nat.le_refl _) _))
        rw [hwz] at KY
        rw [hwz]
        clear hwz
        have KZ := Lib.hid (show OneSt w wz from KY.out)
        obtain ⟨p0, p1⟩ := cells2 KZ.out.st
        obtain ⟨q0, q1, q2, q3, q4, q5⟩ := cells6 KZ.out.bl
        have f0 := KZ.out.st.frz 0
        have f1 := KZ.out.st.frz 1
        have b0 := KZ.out.bl.frz 0
        have b1 := KZ.out.bl.frz 1
        have b2 := KZ.out.bl.frz 2
        have b3 := KZ.out.bl.frz 3
        have b4 := KZ.out.bl.frz 4
        have b5 := KZ.out.bl.frz 5
        go_wp2_with fail
        obtain ⟨xi, ui⟩ := rset2 KZ.out.st (.int .i64 0) (.int .i64 0)
        have hne : w.heap.size + 1 ≠ w.heap.size := by omega
        have bl := KZ.out.bl.of_heap (ui.block (w.heap.size + 1) hne)
        obtain ⟨xj, uj⟩ := rset6 bl (.int .i64 0) (.int .i64 0) (.int .i64 0) (.string ⟨#[]⟩) (.slice none 0 0) (.slice none 0 0)
        have xk := xi.of_heap (uj.block w.heap.size hne.symm)
        obtain ⟨r0, r1⟩ := cells2 xk
        obtain ⟨s0, s1, s2, s3, s4, s5⟩ := cells6 xj
        have hB := (KZ.out.below.trans (ui.below (Nat.le_refl _))).trans (uj.below (Nat.le_succ _))
        refine bodyPost_ret (v := .tuple #[.int .i64 0, .agg #[.int .i64 0, .int .i64 0], .agg #[.int .i64 0, .int .i64 0, .int .i64 0, .string ⟨#[]⟩, .slice none 0 0, .slice none 0 0]]) (by simp [results, Try.results17, go_sem, r0, r1, s0, s1, s2, s3, s4, s5]) rfl ⟨?_, hB⟩
        exact rfl
      · have d1 : ((c : Int) == 83) = false := by simp; omega
        by_cases h66 : c = 66
        · have d2 : ((c : Int) == 66) = true := by simp; omega
          have HRB := Lib.hid (HB.out ⟨h66, h1⟩)
          clear h9 h83 hc h1 h66
          go_enter Try.func17, Try.ntmps17
          go_upto_region 1 with fail
          rw [HW0.out]
          go_wp2_with fail
          refine (read_block _ HRS.out _).mono ?_
          rintro e w1 ⟨hans, hb1⟩
          rw [HRB.out] at hans
          have hans : e = .returned (.tuple #[zBlk, .int .i64 2]) := hans
          subst hans
          have K1 := Lib.hid (K0.out.on hb1)
          clear hb1
          unfold zBlk
          go_upto_region 9 with fail
          obtain ⟨wz, hwz⟩ : ∃ wz, w1.alloc (.cells #[.int .i64 0, .int .i64 0, .int .i64 0, .string ⟨#[]⟩, .slice none 0 0, .slice none 0 0] 51) = wz := ⟨_, rfl⟩
          have KY := Lib.hid (show OneSt w (w1.alloc (.cells #[.int .i64 0, .int .i64 0, .int .i64 0, .string ⟨#[]⟩, .slice none 0 0, .slice none 0 0] 51)) from K1.out.on ((Below.refl _ w1).alloc (Nat.le_refl _) _))
          rw [hwz] at KY
          rw [hwz]
          clear hwz
          have KZ := Lib.hid (show OneSt w wz from KY.out)
          obtain ⟨p0, p1⟩ := cells2 KZ.out.st
          obtain ⟨q0, q1, q2, q3, q4, q5⟩ := cells6 KZ.out.bl
          have f0 := KZ.out.st.frz 0
          have f1 := KZ.out.st.frz 1
          have b0 := KZ.out.bl.frz 0
          have b1 := KZ.out.bl.frz 1
          have b2 := KZ.out.bl.frz 2
          have b3 := KZ.out.bl.frz 3
          have b4 := KZ.out.bl.frz 4
          have b5 := KZ.out.bl.frz 5
          go_wp2_with fail
          obtain ⟨xi, ui⟩ := rset2 KZ.out.st (.int .i64 0) (.int .i64 0)
          have hne : w.heap.size + 1 ≠ w.heap.size := by omega
          have bl := KZ.out.bl.of_heap (ui.block (w.heap.size + 1) hne)
          obtain ⟨xj, uj⟩ := rset6 bl (.int .i64 0) (.int .i64 0) (.int .i64 0) (.string ⟨#[]⟩) (.slice none 0 0) (.slice none 0 0)
          have xk := xi.of_heap (uj.block w.heap.size hne.symm)
          obtain ⟨r0, r1⟩ := cells2 xk
          obtain ⟨s0, s1, s2, s3, s4, s5⟩ := cells6 xj
          have hB := (KZ.out.below.trans (ui.below (Nat.le_refl _))).trans (uj.below (Nat.le_succ _))
          refine bodyPost_ret (v := .tuple #[.int .i64 0, .agg #[.int .i64 0, .int .i64 0], .agg #[.int .i64 0, .int .i64 0, .int .i64 0, .string ⟨#[]⟩, .slice none 0 0, .slice none 0 0]]) (by simp [results, Try.results17, go_sem, r0, r1, s0, s1, s2, s3, s4, s5]) rfl ⟨?_, hB⟩
          exact rfl
        · have d2 : ((c : Int) == 66) = false := by simp; omega
          clear h9 h83 hc h1 h66
          go_enter Try.func17, Try.ntmps17
          go_upto_region 1 with fail
          rw [HW0.out]
          go_upto_region 9 with fail
          obtain ⟨wz, hwz⟩ : ∃ wz, w0 = wz := ⟨_, rfl⟩
          have KY := Lib.hid (show OneSt w (w0) from K0.out)
          rw [hwz] at KY
          rw [hwz]
          clear hwz
          have KZ := Lib.hid (show OneSt w wz from KY.out)
          obtain ⟨p0, p1⟩ := cells2 KZ.out.st
          obtain ⟨q0, q1, q2, q3, q4, q5⟩ := cells6 KZ.out.bl
          have f0 := KZ.out.st.frz 0
          have f1 := KZ.out.st.frz 1
          have b0 := KZ.out.bl.frz 0
          have b1 := KZ.out.bl.frz 1
          have b2 := KZ.out.bl.frz 2
          have b3 := KZ.out.bl.frz 3
          have b4 := KZ.out.bl.frz 4
          have b5 := KZ.out.bl.frz 5
          go_wp2_with fail
          obtain ⟨xi, ui⟩ := rset2 KZ.out.st (.int .i64 0) (.int .i64 0)
          have hne : w.heap.size + 1 ≠ w.heap.size := by omega
          have bl := KZ.out.bl.of_heap (ui.block (w.heap.size + 1) hne)
          obtain ⟨xj, uj⟩ := rset6 bl (.int .i64 0) (.int .i64 0) (.int .i64 0) (.string ⟨#[]⟩) (.slice none 0 0) (.slice none 0 0)
          have xk := xi.of_heap (uj.block w.heap.size hne.symm)
          obtain ⟨r0, r1⟩ := cells2 xk
          obtain ⟨s0, s1, s2, s3, s4, s5⟩ := cells6 xj
          have hB := (KZ.out.below.trans (ui.below (Nat.le_refl _))).trans (uj.below (Nat.le_succ _))
          refine bodyPost_ret (v := .tuple #[.int .i64 0, .agg #[.int .i64 0, .int .i64 0], .agg #[.int .i64 0, .int .i64 0, .int .i64 0, .string ⟨#[]⟩, .slice none 0 0, .slice none 0 0]]) (by simp [results, Try.results17, go_sem, r0, r1, s0, s1, s2, s3, s4, s5]) rfl ⟨?_, hB⟩
          exact rfl
    · have q1 : ((r.size : Int) == 9) = false := by simp; omega
      have q1' : ¬ (r.size : Int) = 9 := by omega
      by_cases h66 : c = 66
      · have d2 : ((c : Int) == 66) = true := by simp; omega
        have HRB := Lib.hid (HB.out ⟨h66, h1⟩)
        clear h9 hc h1 h66
        go_enter Try.func17, Try.ntmps17
        go_upto_region 1 with fail
        rw [HW0.out]
        go_wp2_with fail
        refine (read_block _ HRS.out _).mono ?_
        rintro e w1 ⟨hans, hb1⟩
        rw [HRB.out] at hans
        have hans : e = .returned (.tuple #[zBlk, .int .i64 2]) := hans
        subst hans
        have K1 := Lib.hid (K0.out.on hb1)
        clear hb1
        unfold zBlk
        go_upto_region 9 with fail
        obtain ⟨wz, hwz⟩ : ∃ wz, w1.alloc (.cells #[.int .i64 0, .int .i64 0, .int .i64 0, .string ⟨#[]⟩, .slice none 0 0, .slice none 0 0] 51) = wz := ⟨_, rfl⟩
        have KY := Lib.hid (show OneSt w (w1.alloc (.cells #[.int .i64 0, .int .i64 0, .int .i64 0, .string ⟨#[]⟩, .slice none 0 0, .slice none 0 0] 51)) from K1.out.on ((Below.refl _ w1).alloc (Nat.le_refl _) _))
        rw [hwz] at KY
        rw [hwz]
        clear hwz
        have KZ := Lib.hid (show OneSt w wz from KY.out)
        obtain ⟨p0, p1⟩ := cells2 KZ.out.st
        obtain ⟨q0, q1, q2, q3, q4, q5⟩ := cells6 KZ.out.bl
        have f0 := KZ.out.st.frz 0
        have f1 := KZ.out.st.frz 1
        have b0 := KZ.out.bl.frz 0
        have b1 := KZ.out.bl.frz 1
        have b2 := KZ.out.bl.frz 2
        have b3 := KZ.out.bl.frz 3
        have b4 := KZ.out.bl.frz 4
        have b5 := KZ.out.bl.frz 5
        go_wp2_with fail
        obtain ⟨xi, ui⟩ := rset2 KZ.out.st (.int .i64 0) (.int .i64 0)
        have hne : w.heap.size + 1 ≠ w.heap.size := by omega
        have bl := KZ.out.bl.of_heap (ui.block (w.heap.size + 1) hne)
        obtain ⟨xj, uj⟩ := rset6 bl (.int .i64 0) (.int .i64 0) (.int .i64 0) (.string ⟨#[]⟩) (.slice none 0 0) (.slice none 0 0)
        have xk := xi.of_heap (uj.block w.heap.size hne.symm)
        obtain ⟨r0, r1⟩ := cells2 xk
        obtain ⟨s0, s1, s2, s3, s4, s5⟩ := cells6 xj
        have hB := (KZ.out.below.trans (ui.below (Nat.le_refl _))).trans (uj.below (Nat.le_succ _))
        refine bodyPost_ret (v := .tuple #[.int .i64 0, .agg #[.int .i64 0, .int .i64 0], .agg #[.int .i64 0, .int .i64 0, .int .i64 0, .string ⟨#[]⟩, .slice none 0 0, .slice none 0 0]]) (by simp [results, Try.results17, go_sem, r0, r1, s0, s1, s2, s3, s4, s5]) rfl ⟨?_, hB⟩
        exact rfl
      · have d2 : ((c : Int) == 66) = false := by simp; omega
        clear h9 hc h1 h66
        go_enter Try.func17, Try.ntmps17
        go_upto_region 1 with fail
        rw [HW0.out]
        go_upto_region 9 with fail
        obtain ⟨wz, hwz⟩ : ∃ wz, w0 = wz := ⟨_, rfl⟩
        have KY := Lib.hid (show OneSt w (w0) from K0.out)
        rw [hwz] at KY
        rw [hwz]
        clear hwz
        have KZ := Lib.hid (show OneSt w wz from KY.out)
        obtain ⟨p0, p1⟩ := cells2 KZ.out.st
        obtain ⟨q0, q1, q2, q3, q4, q5⟩ := cells6 KZ.out.bl
        have f0 := KZ.out.st.frz 0
        have f1 := KZ.out.st.frz 1
        have b0 := KZ.out.bl.frz 0
        have b1 := KZ.out.bl.frz 1
        have b2 := KZ.out.bl.frz 2
        have b3 := KZ.out.bl.frz 3
        have b4 := KZ.out.bl.frz 4
        have b5 := KZ.out.bl.frz 5
        go_wp2_with fail
        obtain ⟨xi, ui⟩ := rset2 KZ.out.st (.int .i64 0) (.int .i64 0)
        have hne : w.heap.size + 1 ≠ w.heap.size := by omega
        have bl := KZ.out.bl.of_heap (ui.block (w.heap.size + 1) hne)
        obtain ⟨xj, uj⟩ := rset6 bl (.int .i64 0) (.int .i64 0) (.int .i64 0) (.string ⟨#[]⟩) (.slice none 0 0) (.slice none 0 0)
        have xk := xi.of_heap (uj.block w.heap.size hne.symm)
        obtain ⟨r0, r1⟩ := cells2 xk
        obtain ⟨s0, s1, s2, s3, s4, s5⟩ := cells6 xj
        have hB := (KZ.out.below.trans (ui.below (Nat.le_refl _))).trans (uj.below (Nat.le_succ _))
        refine bodyPost_ret (v := .tuple #[.int .i64 0, .agg #[.int .i64 0, .int .i64 0], .agg #[.int .i64 0, .int .i64 0, .int .i64 0, .string ⟨#[]⟩, .slice none 0 0, .slice none 0 0]]) (by simp [results, Try.results17, go_sem, r0, r1, s0, s1, s2, s3, s4, s5]) rfl ⟨?_, hB⟩
        exact rfl
  · have q1 : ((r.size : Int) == 9) = false := by simp; omega
    have q1' : ¬ (r.size : Int) = 9 := by omega
    have q2 : ¬ (1 : Int) < (r.size : Int) := by omega
    clear hc h1
    go_enter Try.func17, Try.ntmps17
    go_upto_region 1 with fail
    rw [HW0.out]
    go_upto_region 9 with fail
    obtain ⟨wz, hwz⟩ : ∃ wz, w0 = wz := ⟨_, rfl⟩
    have KY := Lib.hid (show OneSt w (w0) from K0.out)
    rw [hwz] at KY
    rw [hwz]
    clear hwz
    have KZ := Lib.hid (show OneSt w wz from KY.out)
    obtain ⟨p0, p1⟩ := cells2 KZ.out.st
    obtain ⟨q0, q1, q2, q3, q4, q5⟩ := cells6 KZ.out.bl
    have f0 := KZ.out.st.frz 0
    have f1 := KZ.out.st.frz 1
    have b0 := KZ.out.bl.frz 0
    have b1 := KZ.out.bl.frz 1
    have b2 := KZ.out.bl.frz 2
    have b3 := KZ.out.bl.frz 3
    have b4 := KZ.out.bl.frz 4
    have b5 := KZ.out.bl.frz 5
    go_wp2_with fail
    obtain ⟨xi, ui⟩ := rset2 KZ.out.st (.int .i64 0) (.int .i64 0)
    have hne : w.heap.size + 1 ≠ w.heap.size := by omega
    have bl := KZ.out.bl.of_heap (ui.block (w.heap.size + 1) hne)
    obtain ⟨xj, uj⟩ := rset6 bl (.int .i64 0) (.int .i64 0) (.int .i64 0) (.string ⟨#[]⟩) (.slice none 0 0) (.slice none 0 0)
    have xk := xi.of_heap (uj.block w.heap.size hne.symm)
    obtain ⟨r0, r1⟩ := cells2 xk
    obtain ⟨s0, s1, s2, s3, s4, s5⟩ := cells6 xj
    have hB := (KZ.out.below.trans (ui.below (Nat.le_refl _))).trans (uj.below (Nat.le_succ _))
    refine bodyPost_ret (v := .tuple #[.int .i64 0, .agg #[.int .i64 0, .int .i64 0], .agg #[.int .i64 0, .int .i64 0, .int .i64 0, .string ⟨#[]⟩, .slice none 0 0, .slice none 0 0]]) (by simp [results, Try.results17, go_sem, r0, r1, s0, s1, s2, s3, s4, s5]) rfl ⟨?_, hB⟩
    exact rfl
set_option maxRecDepth 100000 in
set_option maxHeartbeats 4000000 in
theorem one_st (r : ByteArray) (s : StT) (h9 : r.size = 9) (h83 : r.data.toList.getD 0 0 = 83) (h : readS (r.extract 1 r.size) = some s) (w : World) : Calls Try.prog 17 #[.string r] w fun e w' => OneAns w (some (.inl s)) e w' ∧ Below w.heap.size w w' := by
  have K0 := Lib.hid (onest_mk w 26 51)
  have HRD := Lib.hid h
  have g0' : 0 < r.size := by omega
  have g0 : (0 : Int) < (r.size : Int) := by omega
  have e0 := byte0 r g0'
  rw [h83] at e0
  have e0 : (r[0].toNat : Int) = 83 := e0
  have q3 : (1 : Int) ≤ (r.size : Int) := by omega
  have q1 : (r.size : Int) = 9 := by omega
  clear h h9 h83
  obtain ⟨w0, hw0⟩ : ∃ w0, (w.alloc (.cells #[.int .i64 0, .int .i64 0] 26)).alloc (.cells #[.int .i64 0, .int .i64 0, .int .i64 0, .string ⟨#[]⟩, .slice none 0 0, .slice none 0 0] 51) = w0 := ⟨_, rfl⟩
  have HW0 := Lib.hid hw0
  rw [hw0] at K0
  clear hw0
  go_enter Try.func17, Try.ntmps17
  go_upto_region 1 with fail
  rw [HW0.out]
  go_wp2_with fail
  refine (readst_some _ s _ HRD.out).mono ?_
  rintro e w1 ⟨rfl, hb1⟩
  have K1 := Lib.hid (K0.out.on hb1)
  clear hb1
  go_upto_region 4 with fail
  obtain ⟨wy, hwz⟩ : ∃ wy, w1.alloc (.cells #[.int .i64 s.1, .int .i64 s.2] 26) = wy := ⟨_, rfl⟩
  have KY := Lib.hid (show OneSt w (w1.alloc (.cells #[.int .i64 s.1, .int .i64 s.2] 26)) from K1.out.on ((Below.refl _ w1).alloc (Nat.le_refl _) _))
  have x0 := cell_new w1 #[.int .i64 s.1, .int .i64 s.2] 26 0 _ rfl
  have x1 := cell_new w1 #[.int .i64 s.1, .int .i64 s.2] 26 1 _ rfl
  rw [hwz] at KY x0 x1
  rw [hwz]
  clear hwz
  have HSC := Lib.hid (fun (wx : World) (e : wx.heap[w1.heap.size]? = wy.heap[w1.heap.size]?) => And.intro ((World.cell?_of_block (a := ⟨w1.heap.size, 0, none⟩) e).trans x0) ((World.cell?_of_block (a := ⟨w1.heap.size, 1, none⟩) e).trans x1))
  have HNZ := Lib.hid (show w1.heap.size ≠ w.heap.size from by have := K1.out.st.lt; omega)
  clear x0 x1
  refine planE_abs (fun wx => wx.heap[w1.heap.size]? = wy.heap[w1.heap.size]?) 4 [(true, 1), (true, 0), (true, 2), (false, 3), (false, 4)] (by kernel_rfl) (by kernel_rfl) (fun _ _ d _ _ h => by cases d <;> exact h) fun wz hs2 => ⟨by rw [hs2.heap], ?_⟩
  have HSZ := Lib.hid (show wz.heap[w1.heap.size]? = wy.heap[w1.heap.size]? by rw [hs2.heap])
  have KX := Lib.hid (KY.out.on (hs2.below _))
  clear hs2
  iterate 3 (refine pe_run _ ?_ rfl rfl ?_ ?_; rotate_left; (focus (intro w' hS; obtain ⟨c0, c1⟩ := HSC.out w' hS; go_simp; exact rfl)); simp only [Act.put, List.setIfInBounds_toArray, List.set_cons_zero, List.set_cons_succ, List.getElem_toArray, List.getElem_cons_zero, List.getElem_cons_succ])
  have KZ := Lib.hid (show OneSt w wz from KX.out)
  obtain ⟨p0, p1⟩ := cells2 KZ.out.st
  obtain ⟨q0, q1, q2, q3, q4, q5⟩ := cells6 KZ.out.bl
  have f0 := KZ.out.st.frz 0
  have f1 := KZ.out.st.frz 1
  have b0 := KZ.out.bl.frz 0
  have b1 := KZ.out.bl.frz 1
  have b2 := KZ.out.bl.frz 2
  have b3 := KZ.out.bl.frz 3
  have b4 := KZ.out.bl.frz 4
  have b5 := KZ.out.bl.frz 5
  obtain ⟨xi, ui⟩ := rset2 KZ.out.st (.int .i64 s.1) (.int .i64 s.2)
  have hne : w.heap.size + 1 ≠ w.heap.size := by omega
  have bl := KZ.out.bl.of_heap (ui.block (w.heap.size + 1) hne)
  refine pe_store _ rfl rfl (by go_simp) ((ui.block _ HNZ.out).trans HSZ.out) ?_
  simp only [Act.put, List.getElem_toArray, List.getElem_cons_zero, List.getElem_cons_succ]
  refine pe_last _ rfl ?_
  simp only [List.getElem_toArray, List.getElem_cons_zero, List.getElem_cons_succ]
  clear p0 p1 q0 q1 q2 q3 q4 q5 f0 f1 b0 b1 b2 b3 b4 b5
  obtain ⟨q0, q1, q2, q3, q4, q5⟩ := cells6 bl
  have b0 := bl.frz 0
  have b1 := bl.frz 1
  have b2 := bl.frz 2
  have b3 := bl.frz 3
  have b4 := bl.frz 4
  have b5 := bl.frz 5
  go_wp2_with fail
  obtain ⟨xj, uj⟩ := rset6 bl (.int .i64 0) (.int .i64 0) (.int .i64 0) (.string ⟨#[]⟩) (.slice none 0 0) (.slice none 0 0)
  have xk := xi.of_heap (uj.block w.heap.size hne.symm)
  obtain ⟨r0, r1⟩ := cells2 xk
  obtain ⟨s0, s1, s2, s3, s4, s5⟩ := cells6 xj
  have hB := (KZ.out.below.trans (ui.below (Nat.le_refl _))).trans (uj.below (Nat.le_succ _))
  refine bodyPost_ret (v := .tuple #[.int .i64 1, .agg #[.int .i64 s.1, .int .i64 s.2], .agg #[.int .i64 0, .int .i64 0, .int .i64 0, .string ⟨#[]⟩, .slice none 0 0, .slice none 0 0]]) (by simp [results, Try.results17, go_sem, r0, r1, s0, s1, s2, s3, s4, s5]) rfl ⟨?_, hB⟩
  exact rfl
set_option maxRecDepth 100000 in
set_option maxHeartbeats 4000000 in
theorem one_bl (r : ByteArray) (d : BlockD) (hr : r.size ≤ 1000000) (h1 : 1 < r.size) (h66 : r.data.toList.getD 0 0 = 66) (h : blockRd (r.extract 1 r.size) = some d) (w : World) : Calls Try.prog 17 #[.string r] w fun e w' => OneAns w (some (.inr d)) e w' ∧ Below w.heap.size w w' := by
  have K0 := Lib.hid (onest_mk w 26 51)
  have HRD := Lib.hid h
  have HRS := Lib.hid (show (r.extract 1 r.size).size ≤ 1000000 by rw [ByteArray.size_extract]; omega)
  have g0' : 0 < r.size := by omega
  have g0 : (0 : Int) < (r.size : Int) := by omega
  have e0 := byte0 r g0'
  rw [h66] at e0
  have e0 : (r[0].toNat : Int) = 66 := e0
  have q3 : (1 : Int) ≤ (r.size : Int) := by omega
  have q1 : (1 : Int) < (r.size : Int) := by omega
  clear h h1 h66 hr
  obtain ⟨w0, hw0⟩ : ∃ w0, (w.alloc (.cells #[.int .i64 0, .int .i64 0] 26)).alloc (.cells #[.int .i64 0, .int .i64 0, .int .i64 0, .string ⟨#[]⟩, .slice none 0 0, .slice none 0 0] 51) = w0 := ⟨_, rfl⟩
  have HW0 := Lib.hid hw0
  rw [hw0] at K0
  clear hw0
  by_cases h9 : (r.size : Int) = 9
  · have q9 : ((r.size : Int) == 9) = true := by simp; omega
    go_enter Try.func17, Try.ntmps17
    go_upto_region 1 with fail
    rw [HW0.out]
    go_wp2_with fail
    refine (read_block _ HRS.out _).mono ?_
    rintro e w1 ⟨hans, hb1⟩
    rw [HRD.out] at hans
    obtain ⟨⟨⟨v, p⟩, ⟨⟨cv, k⟩, l⟩⟩, m⟩ := d
    obtain ⟨sv, rv, rfl, hin⟩ := blockans_dep hans
    have K1 := Lib.hid (K0.out.on hb1)
    have HIN := Lib.hid hin
    obtain ⟨hsv, hrv⟩ := hin.now
    replace hsv : SigsAt w1 sv l := hsv
    replace hrv : ReqsAt w1 rv m := hrv
    obtain ⟨a0, cap, rfl, _⟩ := hsv
    obtain ⟨a1, cap1, rfl, _⟩ := hrv
    clear hb1 hans hin
    unfold bvV
    simp only [viewI, propI, jvI, parI]
    go_upto_region 8 with fail
    obtain ⟨wy, hwz⟩ : ∃ wy, w1.alloc (.cells #[.int .i64 v, .int .i64 p, .int .i64 cv, .string k, .slice a0 l.length cap, .slice a1 m.length cap1] 51) = wy := ⟨_, rfl⟩
    have KB := Lib.hid (show BoxAt w1 w1.heap.size [.int .i64 v, .int .i64 p, .int .i64 cv, .string k, .slice a0 l.length cap, .slice a1 m.length cap1] (w1.alloc (.cells #[.int .i64 v, .int .i64 p, .int .i64 cv, .string k, .slice a0 l.length cap, .slice a1 m.length cap1] 51)) from box_mk w1 _ _)
    rw [hwz] at KB
    have KY := Lib.hid (K1.out.on KB.out.below)
    first | rw [hwz] | (show Code.wp _ _ _ _ (w1.alloc (.cells #[.int .i64 v, .int .i64 p, .int .i64 cv, .string k, .slice a0 l.length cap, .slice a1 m.length cap1] 51)); rw [hwz])
    clear hwz
    have HSC := Lib.hid (fun (wx : World) (e : wx.heap[w1.heap.size]? = wy.heap[w1.heap.size]?) (i : Nat) u (hu : [Value.int .i64 v, .int .i64 p, .int .i64 cv, .string k, .slice a0 l.length cap, .slice a1 m.length cap1][i]? = some u) => (World.cell?_of_block (a := ⟨w1.heap.size, i, none⟩) e).trans (KB.out.cell i u hu))
    have HNZ := Lib.hid (show w1.heap.size ≠ w.heap.size from by have := K1.out.st.lt; omega)
    refine planE_abs (fun wx => wx.heap[w1.heap.size]? = wy.heap[w1.heap.size]?) 4 [(true, 0), (true, 1), (true, 2), (false, 3), (false, 4)] (by kernel_rfl) (by kernel_rfl) (fun _ _ d _ _ h => by cases d <;> exact h) fun wz hs2 => ⟨by rw [hs2.heap], ?_⟩
    have HSZ := Lib.hid (show wz.heap[w1.heap.size]? = wy.heap[w1.heap.size]? by rw [hs2.heap])
    have KX := Lib.hid (KY.out.on (hs2.below _))
    have HIZ := Lib.hid (HIN.out.on (Keeps.of (KB.out.below.trans ((hs2.below _).mono KB.out.below.size))))
    have HW := Lib.hid (show w.heap.size + 1 < w0.heap.size from K0.out.bl.lt)
    clear hs2
    iterate 3 (refine pe_run _ ?_ rfl rfl ?_ ?_; rotate_left; (focus (intro w' hS; have x0 := HSC.out w' hS 0 _ rfl; have x1 := HSC.out w' hS 1 _ rfl; have x2 := HSC.out w' hS 2 _ rfl; have x3 := HSC.out w' hS 3 _ rfl; have x4 := HSC.out w' hS 4 _ rfl; have x5 := HSC.out w' hS 5 _ rfl; go_simp; exact rfl)); simp only [Act.put, List.setIfInBounds_toArray, List.set_cons_zero, List.set_cons_succ, List.getElem_toArray, List.getElem_cons_zero, List.getElem_cons_succ])
    have KZ := Lib.hid (show OneSt w wz from KX.out)
    obtain ⟨p0, p1⟩ := cells2 KZ.out.st
    obtain ⟨q0, q1, q2, q3, q4, q5⟩ := cells6 KZ.out.bl
    have f0 := KZ.out.st.frz 0
    have f1 := KZ.out.st.frz 1
    have b0 := KZ.out.bl.frz 0
    have b1 := KZ.out.bl.frz 1
    have b2 := KZ.out.bl.frz 2
    have b3 := KZ.out.bl.frz 3
    have b4 := KZ.out.bl.frz 4
    have b5 := KZ.out.bl.frz 5
    obtain ⟨xi, ui⟩ := rset2 KZ.out.st (.int .i64 0) (.int .i64 0)
    have hne : w.heap.size + 1 ≠ w.heap.size := by omega
    have bl := KZ.out.bl.of_heap (ui.block (w.heap.size + 1) hne)
    refine pe_store _ rfl rfl (by go_simp) ((ui.block _ HNZ.out).trans HSZ.out) ?_
    simp only [Act.put, List.getElem_toArray, List.getElem_cons_zero, List.getElem_cons_succ]
    refine pe_last _ rfl ?_
    simp only [List.getElem_toArray, List.getElem_cons_zero, List.getElem_cons_succ]
    clear p0 p1 q0 q1 q2 q3 q4 q5 f0 f1 b0 b1 b2 b3 b4 b5
    obtain ⟨q0, q1, q2, q3, q4, q5⟩ := cells6 bl
    have b0 := bl.frz 0
    have b1 := bl.frz 1
    have b2 := bl.frz 2
    have b3 := bl.frz 3
    have b4 := bl.frz 4
    have b5 := bl.frz 5
    go_wp2_with fail
    obtain ⟨xj, uj⟩ := rset6 bl (.int .i64 v) (.int .i64 p) (.int .i64 cv) (.string k) (.slice a0 l.length cap) (.slice a1 m.length cap1)
    have xk := xi.of_heap (uj.block w.heap.size hne.symm)
    obtain ⟨r0, r1⟩ := cells2 xk
    obtain ⟨s0, s1, s2, s3, s4, s5⟩ := cells6 xj
    have hB := (KZ.out.below.trans (ui.below (Nat.le_refl _))).trans (uj.below (Nat.le_succ _))
    refine bodyPost_ret (v := .tuple #[.int .i64 2, .agg #[.int .i64 0, .int .i64 0], .agg #[.int .i64 v, .int .i64 p, .int .i64 cv, .string k, .slice a0 l.length cap, .slice a1 m.length cap1]]) (by simp [results, Try.results17, go_sem, r0, r1, s0, s1, s2, s3, s4, s5]) rfl ⟨?_, hB⟩
    exact ⟨_, _, rfl, ((HIZ.out.on (Keeps.upd ui fun x hx => by have := HW.out; omega)).on (Keeps.upd uj fun x hx => by have := HW.out; omega)).more fun x hx _ => by have := HW.out; omega⟩
  · have q9 : ((r.size : Int) == 9) = false := by simp; omega
    go_enter Try.func17, Try.ntmps17
    go_upto_region 1 with fail
    rw [HW0.out]
    go_wp2_with fail
    refine (read_block _ HRS.out _).mono ?_
    rintro e w1 ⟨hans, hb1⟩
    rw [HRD.out] at hans
    obtain ⟨⟨⟨v, p⟩, ⟨⟨cv, k⟩, l⟩⟩, m⟩ := d
    obtain ⟨sv, rv, rfl, hin⟩ := blockans_dep hans
    have K1 := Lib.hid (K0.out.on hb1)
    have HIN := Lib.hid hin
    obtain ⟨hsv, hrv⟩ := hin.now
    replace hsv : SigsAt w1 sv l := hsv
    replace hrv : ReqsAt w1 rv m := hrv
    obtain ⟨a0, cap, rfl, _⟩ := hsv
    obtain ⟨a1, cap1, rfl, _⟩ := hrv
    clear hb1 hans hin
    unfold bvV
    simp only [viewI, propI, jvI, parI]
    go_upto_region 8 with fail
    obtain ⟨wy, hwz⟩ : ∃ wy, w1.alloc (.cells #[.int .i64 v, .int .i64 p, .int .i64 cv, .string k, .slice a0 l.length cap, .slice a1 m.length cap1] 51) = wy := ⟨_, rfl⟩
    have KB := Lib.hid (show BoxAt w1 w1.heap.size [.int .i64 v, .int .i64 p, .int .i64 cv, .string k, .slice a0 l.length cap, .slice a1 m.length cap1] (w1.alloc (.cells #[.int .i64 v, .int .i64 p, .int .i64 cv, .string k, .slice a0 l.length cap, .slice a1 m.length cap1] 51)) from box_mk w1 _ _)
    rw [hwz] at KB
    have KY := Lib.hid (K1.out.on KB.out.below)
    first | rw [hwz] | (show Code.wp _ _ _ _ (w1.alloc (.cells #[.int .i64 v, .int .i64 p, .int .i64 cv, .string k, .slice a0 l.length cap, .slice a1 m.length cap1] 51)); rw [hwz])
    clear hwz
    have HSC := Lib.hid (fun (wx : World) (e : wx.heap[w1.heap.size]? = wy.heap[w1.heap.size]?) (i : Nat) u (hu : [Value.int .i64 v, .int .i64 p, .int .i64 cv, .string k, .slice a0 l.length cap, .slice a1 m.length cap1][i]? = some u) => (World.cell?_of_block (a := ⟨w1.heap.size, i, none⟩) e).trans (KB.out.cell i u hu))
    have HNZ := Lib.hid (show w1.heap.size ≠ w.heap.size from by have := K1.out.st.lt; omega)
    refine planE_abs (fun wx => wx.heap[w1.heap.size]? = wy.heap[w1.heap.size]?) 4 [(true, 0), (true, 1), (true, 2), (false, 3), (false, 4)] (by kernel_rfl) (by kernel_rfl) (fun _ _ d _ _ h => by cases d <;> exact h) fun wz hs2 => ⟨by rw [hs2.heap], ?_⟩
    have HSZ := Lib.hid (show wz.heap[w1.heap.size]? = wy.heap[w1.heap.size]? by rw [hs2.heap])
    have KX := Lib.hid (KY.out.on (hs2.below _))
    have HIZ := Lib.hid (HIN.out.on (Keeps.of (KB.out.below.trans ((hs2.below _).mono KB.out.below.size))))
    have HW := Lib.hid (show w.heap.size + 1 < w0.heap.size from K0.out.bl.lt)
    clear hs2
    iterate 3 (refine pe_run _ ?_ rfl rfl ?_ ?_; rotate_left; (focus (intro w' hS; have x0 := HSC.out w' hS 0 _ rfl; have x1 := HSC.out w' hS 1 _ rfl; have x2 := HSC.out w' hS 2 _ rfl; have x3 := HSC.out w' hS 3 _ rfl; have x4 := HSC.out w' hS 4 _ rfl; have x5 := HSC.out w' hS 5 _ rfl; go_simp; exact rfl)); simp only [Act.put, List.setIfInBounds_toArray, List.set_cons_zero, List.set_cons_succ, List.getElem_toArray, List.getElem_cons_zero, List.getElem_cons_succ])
    have KZ := Lib.hid (show OneSt w wz from KX.out)
    obtain ⟨p0, p1⟩ := cells2 KZ.out.st
    obtain ⟨q0, q1, q2, q3, q4, q5⟩ := cells6 KZ.out.bl
    have f0 := KZ.out.st.frz 0
    have f1 := KZ.out.st.frz 1
    have b0 := KZ.out.bl.frz 0
    have b1 := KZ.out.bl.frz 1
    have b2 := KZ.out.bl.frz 2
    have b3 := KZ.out.bl.frz 3
    have b4 := KZ.out.bl.frz 4
    have b5 := KZ.out.bl.frz 5
    obtain ⟨xi, ui⟩ := rset2 KZ.out.st (.int .i64 0) (.int .i64 0)
    have hne : w.heap.size + 1 ≠ w.heap.size := by omega
    have bl := KZ.out.bl.of_heap (ui.block (w.heap.size + 1) hne)
    refine pe_store _ rfl rfl (by go_simp) ((ui.block _ HNZ.out).trans HSZ.out) ?_
    simp only [Act.put, List.getElem_toArray, List.getElem_cons_zero, List.getElem_cons_succ]
    refine pe_last _ rfl ?_
    simp only [List.getElem_toArray, List.getElem_cons_zero, List.getElem_cons_succ]
    clear p0 p1 q0 q1 q2 q3 q4 q5 f0 f1 b0 b1 b2 b3 b4 b5
    obtain ⟨q0, q1, q2, q3, q4, q5⟩ := cells6 bl
    have b0 := bl.frz 0
    have b1 := bl.frz 1
    have b2 := bl.frz 2
    have b3 := bl.frz 3
    have b4 := bl.frz 4
    have b5 := bl.frz 5
    go_wp2_with fail
    obtain ⟨xj, uj⟩ := rset6 bl (.int .i64 v) (.int .i64 p) (.int .i64 cv) (.string k) (.slice a0 l.length cap) (.slice a1 m.length cap1)
    have xk := xi.of_heap (uj.block w.heap.size hne.symm)
    obtain ⟨r0, r1⟩ := cells2 xk
    obtain ⟨s0, s1, s2, s3, s4, s5⟩ := cells6 xj
    have hB := (KZ.out.below.trans (ui.below (Nat.le_refl _))).trans (uj.below (Nat.le_succ _))
    refine bodyPost_ret (v := .tuple #[.int .i64 2, .agg #[.int .i64 0, .int .i64 0], .agg #[.int .i64 v, .int .i64 p, .int .i64 cv, .string k, .slice a0 l.length cap, .slice a1 m.length cap1]]) (by simp [results, Try.results17, go_sem, r0, r1, s0, s1, s2, s3, s4, s5]) rfl ⟨?_, hB⟩
    exact ⟨_, _, rfl, ((HIZ.out.on (Keeps.upd ui fun x hx => by have := HW.out; omega)).on (Keeps.upd uj fun x hx => by have := HW.out; omega)).more fun x hx _ => by have := HW.out; omega⟩
end Go.Proofs.Ytnahebfhhcebpaa
end
section
open Go Go.RowKit
namespace TT
open SS RR FF WW BB
/-- what is remembered so far -/
structure RcSt (w0 : World) (tB : TypeId) (s : StT) (L : List Bv) (x : Value) (wr : World) : Prop where
  below : Below w0.heap.size w0 wr
  rb : Blk wr w0.heap.size 2 (rowL [.int .i64 0, .int .i64 0])
  sb : Blk wr (w0.heap.size + 1) 2 (rowL [.int .i64 s.1, .int .i64 s.2])
  row : wr.ownsRow (w0.heap.size + 2) tB 6 x L.length (cellsB L)
  inn : ∀ y ∈ L, Dep (fun b => w0.heap.size + 2 ≤ b ∧ x.ownBlock ≠ some b) wr (fun w' => InnB w' y)
section
variable {w0 wr w' : World} {tB : TypeId} {s : StT} {L : List Bv} {x : Value}
theorem RcSt.on (h : RcSt w0 tB s L x wr) (hb : Below wr.heap.size wr w') : RcSt w0 tB s L x w' :=
  ⟨h.below.trans (hb.mono h.below.size), h.rb.below hb h.rb.lt, h.sb.below hb h.sb.lt, row_keep h.row fun c hc => hb.block c (h.row.lt c hc).2, fun y hy => (h.inn y hy).on (Keeps.of hb)⟩
theorem RcSt.now (h : RcSt w0 tB s L x wr) : ∀ y ∈ L, InnB wr y := fun y hy => (h.inn y hy).now
theorem RcSt.bv (h : RcSt w0 tB s L x wr) : BvAt wr x L := bv_of_own h.row h.now
/-- another state -/
theorem RcSt.set (h : RcSt w0 tB s L x wr) {s' : StT} {wq : World} (hB : Blk wq (w0.heap.size + 1) 2 (rowL [.int .i64 s'.1, .int .i64 s'.2])) (hu : Upd (w0.heap.size + 1) wr wq) : RcSt w0 tB s' L x wq :=
  ⟨h.below.trans (hu.below (Nat.le_succ _)), h.rb.of_heap (hu.block _ (by omega)), hB, row_keep h.row fun c hc => hu.block c (by have := (h.row.lt c hc).1; omega), fun y hy => (h.inn y hy).on (Keeps.upd hu fun b hb => by have := hb.1; omega)⟩
/-- a block more, in a new row -/
theorem RcSt.add (h : RcSt w0 tB s L x wr) {x' : Value} {y : Bv} {base : Nat} (hb : wr.heap.size ≤ base) (hy : Dep (fun b => w0.heap.size + 2 ≤ b) wr (fun w' => InnB w' y)) (hk : Below wr.heap.size wr w')
    (hr : w'.ownsRow base tB 6 x' (L ++ [y]).length (cellsB (L ++ [y]))) : RcSt w0 tB s (L ++ [y]) x' w' := by
  have h1 := h.on hk
  have hs2 : w0.heap.size + 2 ≤ wr.heap.size := by have := h.sb.lt; omega
  have hne : ∀ b, b < wr.heap.size → x'.ownBlock ≠ some b := fun b hl e => by have := (hr.lt b e).1; omega
  refine ⟨h1.below, h1.rb, h1.sb, CC.own_base hr (by omega), fun z hz => ?_⟩
  rcases List.mem_append.1 hz with hz | hz
  · exact ((h.inn z hz).more (A' := fun b => w0.heap.size + 2 ≤ b ∧ x'.ownBlock ≠ some b) fun b hb hl => ⟨hb.1, hne b hl⟩).on (Keeps.of hk)
  · rw [List.mem_singleton.1 hz]
    exact (hy.more (A' := fun b => w0.heap.size + 2 ≤ b ∧ x'.ownBlock ≠ some b) fun b hb hl => ⟨hb, hne b hl⟩).on (Keeps.of hk)
end
theorem rc_start (w : World) (t tB : TypeId) : RcSt w tB (0, 0) [] (.slice none 0 0) ((w.alloc (.cells #[.int .i64 0, .int .i64 0] t)).alloc (.cells #[.int .i64 0, .int .i64 0] t)) :=
  ⟨((Below.refl _ _).alloc (Nat.le_refl _) _).alloc (by simp) _, (Blk.new' rfl (row2_ _ _)).alloc _, Blk.new' (by simp) (row2_ _ _), World.ownsRow_nil _ _ _ _, fun y hy => by cases hy⟩
theorem cellsT_one {w : World} {L : List Bv} (h : ∀ x ∈ L, InnB w x) : ∀ y ∈ cellsB L, y.oneCell' = true := by
  intro y hy
  unfold cellsB at hy
  obtain ⟨c, hc, hyc⟩ := List.mem_flatten.1 hy
  obtain ⟨x, hx, rfl⟩ := List.mem_map.1 hc
  obtain ⟨h1, h2⟩ := h x hx
  obtain ⟨a0, c0, e0, _⟩ := h1
  obtain ⟨a1, c1, e1, _⟩ := h2
  unfold encB at hyc
  rw [e0, e1] at hyc
  simp only [List.mem_cons, List.not_mem_nil, or_false] at hyc
  rcases hyc with rfl | rfl | rfl | rfl | rfl | rfl <;> rfl
theorem take_step {l : List ByteArray} {i : Nat} (h : i < l.length) : l.take (i + 1) = l.take i ++ [l.getD i ⟨#[]⟩] := by
  rw [List.take_add_one, List.getElem?_eq_getElem h, List.getD_eq_getElem?_getD, List.getElem?_eq_getElem h]; rfl
theorem rec_step {l : List ByteArray} {i : Nat} (h : i < l.length) (hg : GoodL (l.take i)) {M : MemT} (hM : recallL (l.take i) ((0, 0), []) = M) {x : StT ⊕ BlockD} (hx : oneD (l.getD i ⟨#[]⟩) = some x) : GoodL (l.take (i + 1)) ∧ recallL (l.take (i + 1)) ((0, 0), []) = stepR M x := by
  rw [take_step h]
  refine ⟨hg.append fun r hr => by rw [List.mem_singleton.1 hr, hx]; rfl, ?_⟩
  rw [recall_append _ _ _ hg, hM, recall_cons hx]; rfl
theorem rec_halt {l : List ByteArray} {i : Nat} (h : i < l.length) (hg : GoodL (l.take i)) {M : MemT} (hM : recallL (l.take i) ((0, 0), []) = M) (hx : oneD (l.getD i ⟨#[]⟩) = none) : recallL l ((0, 0), []) = M := by
  have e : l = l.take i ++ (l.getD i ⟨#[]⟩ :: l.drop (i + 1)) := by
    rw [List.getD_eq_getElem?_getD, List.getElem?_eq_getElem h]
    show l = l.take i ++ (l[i] :: l.drop (i + 1))
    rw [← List.drop_eq_getElem_cons h, List.take_append_drop]
  rw [e, recall_append _ _ _ hg, hM, recall_stop hx]
end TT
namespace Go.Proofs.Ytnahebfhhcebpaa
open TT SS RR FF JJ CC MM WW BB
theorem tinfo_blk : (Try.prog.info? 51).map (fun i => (i.zero, i.size, i.bytes)) = some (some (.agg #[.int .i64 0, .int .i64 0, .int .i64 0, .string ⟨#[]⟩, .slice none 0 0, .slice none 0 0]), 6, 88) := by kernel_rfl
theorem tund_blks : Try.prog.underlying 27 = some (.slice 51) := by kernel_rfl
theorem one_any (r : ByteArray) (hr : r.size ≤ 1000000) (w : World) : Calls Try.prog 17 #[.string r] w fun e w' => OneAns w (oneD r) e w' ∧ Below w.heap.size w w' := by
  cases h : oneD r with
  | none => exact one_none r hr h w
  | some x =>
    unfold oneD at h
    split at h
    · rename_i h9
      cases hx : readS (r.extract 1 r.size) with
      | none => rw [hx] at h; cases h
      | some s =>
        rw [hx] at h
        injection h with h
        subst h
        exact one_st r s h9.1 h9.2 hx w
    · split at h
      · rename_i h9
        cases hx : blockRd (r.extract 1 r.size) with
        | none => rw [hx] at h; cases h
        | some d =>
          rw [hx] at h
          injection h with h
          subst h
          exact one_bl r d hr h9.1 h9.2 hx w
      · cases h
set_option maxRecDepth 100000 in
set_option maxHeartbeats 8000000 in
theorem rrecall_any (l : List ByteArray) (v : Value) (w : World) (hv : StrsAt w v l) (hs : ∀ r ∈ l, r.size ≤ 1000000) (hl : l.length ≤ 1000) :
    Calls Try.prog 7 #[v] w fun e w' => ∃ u L, e = .returned (.tuple #[.agg #[.int .i64 (recallL l ((0, 0), [])).1.1, .int .i64 (recallL l ((0, 0), [])).1.2], u]) ∧ L.map Prod.fst = (recallL l ((0, 0), [])).2 ∧ BvAt w' u L ∧ Below w.heap.size w w' := by
  obtain ⟨M, hM⟩ : ∃ M, recallL l ((0, 0), []) = M := ⟨_, rfl⟩
  rw [hM]
  have HM := Lib.hid hM
  have HV := Lib.hid hv
  have HSZ := Lib.hid hs
  have HL := Lib.hid hl
  obtain ⟨a0, cap, rfl, hx⟩ := hv
  have HX := Lib.hid hx
  clear hM hs hl hx
  have K0 := Lib.hid (rc_start w 26 51)
  obtain ⟨w0, hw0⟩ : ∃ w0, (w.alloc (.cells #[.int .i64 0, .int .i64 0] 26)).alloc (.cells #[.int .i64 0, .int .i64 0] 26) = w0 := ⟨_, rfl⟩
  have HW0 := Lib.hid hw0
  rw [hw0] at K0
  clear hw0
  go_enter Try.func7, Try.ntmps7
  go_upto_region 2 with fail
  rw [HW0.out]
  go_wp2_with fail
  go_loopw [5, 6] (fun x y wr => ∃ (i : Nat) (s : StT) (L : List Bv), i ≤ l.length ∧ y = .int .i64 (i : Int) ∧ GoodL (l.take i) ∧ recallL (l.take i) ((0, 0), []) = (s, L.map Prod.fst) ∧ L.length ≤ i ∧ RcSt w 51 s L x wr) (fun _ y _ => l.length - (intOf y).toNat)
  case atStart => exact ⟨0, (0, 0), [], Nat.zero_le _, rfl, fun r hr => by simp at hr, rfl, Nat.le_refl _, K0.out⟩
  case round =>
    obtain ⟨i, s, L, hi, rfl, hg, hrec, hLi, hst⟩ := hrel
    have HST := Lib.hid hst
    have HG := Lib.hid hg
    have HREC := Lib.hid hrec
    have HLI := Lib.hid hLi
    have i0' : (0 : Int) ≤ (i : Int) := by omega
    have ib : (i : Int) ≤ 1000 := by have := HL.out; omega
    obtain ⟨xa, xc, rfl⟩ := bv_shape hst.bv
    clear hst hg hrec hLi
    by_cases h1 : i < l.length
    · have h1' : (i : Int) < (l.length : Int) := by omega
      have HLT := Lib.hid h1
      obtain ⟨tb, toff, rfl, hbw, hcell⟩ : ∃ b off, a0 = some ⟨b, off, none⟩ ∧ b < w.heap.size ∧ _ := by
        rcases HX.out with h | h
        · subst h; simp at h1
        · exact h
      have k1 := (HST.out.below.cell (p := ⟨tb, toff + i, none⟩) hbw).trans (hcell i h1)
      obtain ⟨r, hr⟩ : ∃ r, l.getD i ⟨#[]⟩ = r := ⟨_, rfl⟩
      have HR := Lib.hid hr
      rw [hr] at k1
      have HRS := Lib.hid (show r.size ≤ 1000000 from HSZ.out r (by rw [← hr, List.getD_eq_getElem?_getD, List.getElem?_eq_getElem h1]; exact List.getElem_mem h1))
      clear h1 hi hbw hcell hr
      go_wp2_with fail
      refine (one_any r HRS.out wr).mono ?_
      rintro e w2 ⟨hans, hb2⟩
      have K2 := Lib.hid (HST.out.on hb2)
      cases hx : oneD r with
      | none =>
        rw [hx] at hans
        have hans : e = .returned (.tuple #[.int .i64 0, .agg #[.int .i64 0, .int .i64 0], zBlk]) := hans
        subst hans
        have HH := Lib.hid (rec_halt HLT.out HG.out HREC.out (by rw [HR.out]; exact hx))
        clear hb2 hx k1
        unfold zBlk
        go_upto_region 8 with fail
        have A3 := Lib.hid (((Below.refl w2.heap.size w2).alloc (Nat.le_refl _) (.cells #[.int .i64 0, .int .i64 0] 26)).alloc (by simp) (.cells #[.int .i64 0, .int .i64 0, .int .i64 0, .string ⟨#[]⟩, .slice none 0 0, .slice none 0 0] 51))
        have BX := Lib.hid (show Blk ((w2.alloc (.cells #[.int .i64 0, .int .i64 0] 26)).alloc (.cells #[.int .i64 0, .int .i64 0, .int .i64 0, .string ⟨#[]⟩, .slice none 0 0, .slice none 0 0] 51)) w2.heap.size 2 (rowL [.int .i64 0, .int .i64 0]) from (Blk.new' rfl (row2_ _ _)).alloc _)
        have BY := Lib.hid (show Blk ((w2.alloc (.cells #[.int .i64 0, .int .i64 0] 26)).alloc (.cells #[.int .i64 0, .int .i64 0, .int .i64 0, .string ⟨#[]⟩, .slice none 0 0, .slice none 0 0] 51)) (w2.heap.size + 1) 6 (rowL [.int .i64 0, .int .i64 0, .int .i64 0, .string ⟨#[]⟩, .slice none 0 0, .slice none 0 0]) from Blk.new' (by simp) (row6_ _ _ _ _ _ _))
        obtain ⟨w3, hw3⟩ : ∃ w3, (w2.alloc (.cells #[.int .i64 0, .int .i64 0] 26)).alloc (.cells #[.int .i64 0, .int .i64 0, .int .i64 0, .string ⟨#[]⟩, .slice none 0 0, .slice none 0 0] 51) = w3 := ⟨_, rfl⟩
        rw [hw3] at A3 BX BY
        rw [hw3]
        have K3 := Lib.hid (K2.out.on A3.out)
        clear hw3
        obtain ⟨c0, c1⟩ := cells2 K3.out.sb
        obtain ⟨d0, d1⟩ := cells2 K3.out.rb
        have f0 := K3.out.rb.frz 0
        have f1 := K3.out.rb.frz 1
        go_wp2_with fail
        obtain ⟨xi, ui⟩ := rset2 K3.out.rb (.int .i64 s.1) (.int .i64 s.2)
        obtain ⟨p0, p1⟩ := cells2 xi
        have hMM : M = (s, L.map Prod.fst) := HM.out.symm.trans HH.out
        refine bodyPost_ret (v := .tuple #[.agg #[.int .i64 s.1, .int .i64 s.2], .slice xa L.length xc]) (by simp [results, Try.results7, go_sem, p0, p1]) rfl ⟨.slice xa L.length xc, L, by rw [hMM], by rw [hMM], ?_, K3.out.below.trans (ui.below (Nat.le_refl _))⟩
        exact bv_of_own (row_keep K3.out.row fun c hc => ui.block c (by have := (K3.out.row.lt c hc).1; omega)) fun y hy => ((K3.out.inn y hy).on (Keeps.upd ui fun b hb => by have := hb.1; omega)).now
      | some x =>
        cases x with
        | inl s' =>
        rw [hx] at hans
        have hans : e = .returned (.tuple #[.int .i64 1, .agg #[.int .i64 s'.1, .int .i64 s'.2], zBlk]) := hans
        subst hans
        have HH := Lib.hid (rec_step HLT.out HG.out HREC.out (by rw [HR.out]; exact hx))
        clear hb2 hx k1
        unfold zBlk
        go_upto_region 10 with fail
        have A3 := Lib.hid (((Below.refl w2.heap.size w2).alloc (Nat.le_refl _) (.cells #[.int .i64 s'.1, .int .i64 s'.2] 26)).alloc (by simp) (.cells #[.int .i64 0, .int .i64 0, .int .i64 0, .string ⟨#[]⟩, .slice none 0 0, .slice none 0 0] 51))
        have BX := Lib.hid (show Blk ((w2.alloc (.cells #[.int .i64 s'.1, .int .i64 s'.2] 26)).alloc (.cells #[.int .i64 0, .int .i64 0, .int .i64 0, .string ⟨#[]⟩, .slice none 0 0, .slice none 0 0] 51)) w2.heap.size 2 (rowL [.int .i64 s'.1, .int .i64 s'.2]) from (Blk.new' rfl (row2_ _ _)).alloc _)
        have BY := Lib.hid (show Blk ((w2.alloc (.cells #[.int .i64 s'.1, .int .i64 s'.2] 26)).alloc (.cells #[.int .i64 0, .int .i64 0, .int .i64 0, .string ⟨#[]⟩, .slice none 0 0, .slice none 0 0] 51)) (w2.heap.size + 1) 6 (rowL [.int .i64 0, .int .i64 0, .int .i64 0, .string ⟨#[]⟩, .slice none 0 0, .slice none 0 0]) from Blk.new' (by simp) (row6_ _ _ _ _ _ _))
        obtain ⟨w3, hw3⟩ : ∃ w3, (w2.alloc (.cells #[.int .i64 s'.1, .int .i64 s'.2] 26)).alloc (.cells #[.int .i64 0, .int .i64 0, .int .i64 0, .string ⟨#[]⟩, .slice none 0 0, .slice none 0 0] 51) = w3 := ⟨_, rfl⟩
        rw [hw3] at A3 BX BY
        rw [hw3]
        have K3 := Lib.hid (K2.out.on A3.out)
        clear hw3
        obtain ⟨c0, c1⟩ := cells2 K3.out.sb
        obtain ⟨d0, d1⟩ := cells2 BX.out
        have f0 := K3.out.sb.frz 0
        have f1 := K3.out.sb.frz 1
        go_wp2_with fail
        obtain ⟨xi, ui⟩ := rset2 K3.out.sb (.int .i64 (max s.1 s'.1)) (.int .i64 (max s.2 s'.2))
        go_roundw
        case rel => exact ⟨i + 1, upS s s', L, by have := HLT.out; omega, by go_num, HH.out.1, HH.out.2, by have := HLI.out; omega, K3.out.set (s' := upS s s') xi ui⟩
        case measure => have := HLT.out; simp [intOf]; omega
        | inr d =>
        rw [hx] at hans
        obtain ⟨sv, rv, rfl, hin⟩ := (show ∃ sv rv, e = .returned (.tuple #[.int .i64 2, .agg #[.int .i64 0, .int .i64 0], bvV (d, sv, rv)]) ∧ Dep (fun b => wr.heap.size ≤ b) w2 (fun w'' => InnB w'' (d, sv, rv)) from hans)
        have HIN := Lib.hid hin
        have HH := Lib.hid (rec_step HLT.out HG.out HREC.out (by rw [HR.out]; exact hx))
        have HENC := Lib.hid (show encB (d, sv, rv) = [.int .i64 (viewI d), .int .i64 (propI d), .int .i64 (jvI d), .string (parI d), sv, rv] from rfl)
        obtain ⟨hsv, hrv⟩ := hin.now
        obtain ⟨sa, sc, hse, _⟩ := hsv
        obtain ⟨ra, rc, hre, _⟩ := hrv
        obtain ⟨sn, hsn⟩ : ∃ sn, (sigsI (d, sv, rv).1).length = sn := ⟨_, rfl⟩
        obtain ⟨rn, hrn⟩ : ∃ rn, ((d, sv, rv) : Bv).1.2.length = rn := ⟨_, rfl⟩
        rw [hsn] at hse
        rw [hrn] at hre
        replace hse : sv = .slice sa sn sc := hse
        replace hre : rv = .slice ra rn rc := hre
        subst hse hre
        clear hb2 hx k1 hans hin hsn hrn
        unfold bvV
        simp only
        obtain ⟨pv, hpv⟩ : ∃ pv, viewI d = pv := ⟨_, rfl⟩
        obtain ⟨pp, hpp⟩ : ∃ pp, propI d = pp := ⟨_, rfl⟩
        obtain ⟨pj, hpj⟩ : ∃ pj, jvI d = pj := ⟨_, rfl⟩
        obtain ⟨pk, hpk⟩ : ∃ pk, parI d = pk := ⟨_, rfl⟩
        rw [hpv, hpp, hpj, hpk] at HENC
        simp only [hpv, hpp, hpj, hpk]
        clear hpv hpp hpj hpk
        go_upto_region 12 with fail
        have A3 := Lib.hid (((Below.refl w2.heap.size w2).alloc (Nat.le_refl _) (.cells #[.int .i64 0, .int .i64 0] 26)).alloc (by simp) (.cells #[.int .i64 pv, .int .i64 pp, .int .i64 pj, .string pk, .slice sa sn sc, .slice ra rn rc] 51))
        have BX := Lib.hid (show Blk ((w2.alloc (.cells #[.int .i64 0, .int .i64 0] 26)).alloc (.cells #[.int .i64 pv, .int .i64 pp, .int .i64 pj, .string pk, .slice sa sn sc, .slice ra rn rc] 51)) w2.heap.size 2 (rowL [.int .i64 0, .int .i64 0]) from (Blk.new' rfl (row2_ _ _)).alloc _)
        have BY := Lib.hid (show Blk ((w2.alloc (.cells #[.int .i64 0, .int .i64 0] 26)).alloc (.cells #[.int .i64 pv, .int .i64 pp, .int .i64 pj, .string pk, .slice sa sn sc, .slice ra rn rc] 51)) (w2.heap.size + 1) 6 (rowL [.int .i64 pv, .int .i64 pp, .int .i64 pj, .string pk, .slice sa sn sc, .slice ra rn rc]) from Blk.new' (by simp) (row6_ _ _ _ _ _ _))
        obtain ⟨w3, hw3⟩ : ∃ w3, (w2.alloc (.cells #[.int .i64 0, .int .i64 0] 26)).alloc (.cells #[.int .i64 pv, .int .i64 pp, .int .i64 pj, .string pk, .slice sa sn sc, .slice ra rn rc] 51) = w3 := ⟨_, rfl⟩
        rw [hw3] at A3 BX BY
        rw [hw3]
        have K3 := Lib.hid (K2.out.on A3.out)
        clear hw3
        have HBC := Lib.hid (fun (wx : World) (hb : Below w3.heap.size w3 wx) => cells6 (BY.out.below hb BY.out.lt))
        obtain ⟨cs, hcs⟩ : ∃ cs, encB (d, .slice sa sn sc, .slice ra rn rc) = cs := ⟨_, rfl⟩
        refine two_abs [1, 3] 0 2 4 44 46 48 [(false, 5), (true, 6)] _ _ _ 51 6 L.length (cellsB L) [.int .i64 pv, .int .i64 pp, .int .i64 pj, .string pk, .slice sa sn sc, .slice ra rn rc] (by kernel_rfl) (by kernel_rfl) (fun _ _ d _ _ h => by cases d <;> exact h) rfl rfl rfl ⟨rfl, rfl, rfl⟩ ⟨rfl, rfl, rfl⟩ ⟨by decide, by decide, by decide⟩ fun w4 hs4 => ?_
        have K4 := Lib.hid (K3.out.on (hs4.below _))
        have X4 := Lib.hid (show Below w3.heap.size w3 w4 from hs4.below _)
        have HBC4 := Lib.hid (fun (wx : World) (hb : Below w4.heap.size w4 wx) => HBC.out wx (X4.out.trans (hb.mono X4.out.size)))
        have HS4 := Lib.hid (show w3.heap.size = w4.heap.size by rw [hs4.heap])
        clear hs4
        obtain ⟨ti, i1, i2, i3, i4⟩ := info_parts tinfo_blk
        simp only [pick, List.filterMap, List.getElem?_toArray, List.getElem?_cons_zero, List.getElem?_cons_succ]
        iterate 2 (refine held_run ?_ rfl ?_ ?_; rotate_left; (focus (intro w' hS; obtain ⟨c0, c1, c2, c3, c4, c5⟩ := HBC4.out w' hS; go_simp; exact rfl)); simp only [Act.put, List.setIfInBounds_toArray, List.set_cons_zero, List.set_cons_succ])
        refine ⟨?_, ?_, ?_, ?_⟩
        · rintro a' (rfl | ⟨x, rfl⟩) w' <;> go_simp
        · rintro a' (rfl | ⟨x, rfl⟩ | ⟨x, z, rfl⟩) w' hb <;> go_simp
        · rintro b' a' ha w' hb hown
          have hbz := hb.size
          obtain ⟨v', w'', hr, ho, hg, hob⟩ := run_append_row0 (P := Try.prog) w4.heap.size 27 27 51 ti _ 6 88 tund_blks i1 i2 i3 i4 rfl (by decide) b' hown (.slice xa L.length xc) L.length (w.heap.size + 2) (cellsB L) (row_keep K4.out.row fun c hc => hb.block c (K4.out.row.lt c hc).2) (cellsT_one K4.out.now) (by have := HLI.out; have := HLT.out; have := HL.out; unfold maxLen; omega) (by have := HLI.out; have := HLT.out; have := HL.out; omega) hbz
          refine ⟨v', w'', ?_, ho, hg, hob⟩
          rcases ha with rfl | ⟨x, rfl⟩ | ⟨x, rfl⟩
          all_goals exact JJ.run_op_append _ _ _ rfl _ _ rfl rfl hr
        · intro b' v' b7 w' hT
          have HTW := Lib.hid hT
          clear hT
          simp only [Act.put, List.setIfInBounds_toArray, List.set_cons_zero, List.set_cons_succ]
          obtain ⟨u8, w8, hr8, ho8, hg8, _⟩ := run_append_own (P := Try.prog) w' w4.heap.size 27 27 51 ti _ 6 88 tund_blks i1 i2 i3 i4 rfl (by decide) v' L.length (cellsB L) HTW.out.row ⟨b7, 0, none⟩ 1 1 [.int .i64 pv, .int .i64 pp, .int .i64 pj, .string pk, .slice sa sn sc, .slice ra rn rc] rfl (fun j u hj => by rw [Addr.add_lit, Nat.zero_add]; exact HTW.out.cell j u hj) (fun y hy => by simp only [List.mem_cons, List.not_mem_nil, or_false] at hy; rcases hy with rfl | rfl | rfl | rfl | rfl | rfl <;> rfl) (by have := HLI.out; have := HLT.out; have := HL.out; unfold maxLen; omega) (by have := HLI.out; have := HLT.out; have := HL.out; omega) HTW.out.below.size
          have B8 := Lib.hid (HTW.out.below.grown hg8 HTW.out.below.size (fun k hk => (HTW.out.row.lt k hk).1))
          have K8 := Lib.hid (show RcSt w 51 s (L ++ [(d, .slice sa sn sc, .slice ra rn rc)]) u8 w8 from by
            have hB8 : Below w3.heap.size w3 w8 := X4.out.trans (B8.out.mono X4.out.size)
            refine RcSt.add (K3.out) (Nat.le_of_eq HS4.out) ((HIN.out.more fun x hx _ => Nat.le_trans (by have := HST.out.sb.lt; omega) hx).on (Keeps.of A3.out)) hB8 ?_
            rw [cellsB_snoc, HENC.out, List.length_append]
            exact ho8)
          obtain ⟨ua, un, uc, hu8⟩ : ∃ a n c, u8 = .slice a n c := by
            obtain ⟨a, c, e⟩ := bv_shape K8.out.bv
            exact ⟨a, _, c, e⟩
          have HU8 := Lib.hid hu8
          refine pl_value (w' := w8) _ u8 rfl rfl (JJ.run_op_append _ _ _ rfl _ _ rfl rfl hr8) B8.out ?_
          clear hr8 ho8 hg8
          simp only [Act.put, List.setIfInBounds_toArray, List.set_cons_zero, List.set_cons_succ, List.getElem_toArray, List.getElem_cons_zero, List.getElem_cons_succ]
          iterate 1 (refine pl_run _ ?_ rfl rfl ?_ ?_; rotate_left; (focus (intro w' hS; go_simp; exact rfl)); simp only [Act.put, List.setIfInBounds_toArray, List.set_cons_zero, List.set_cons_succ, List.getElem_toArray, List.getElem_cons_zero, List.getElem_cons_succ])
          refine pl_end ?_
          go_wp2_with fail
          go_roundw
          case rel => exact ⟨i + 1, s, L ++ [(d, .slice sa sn sc, .slice ra rn rc)], by have := HLT.out; omega, by go_num, HH.out.1, by rw [HH.out.2, List.map_append]; rfl, by rw [List.length_append]; have := HLI.out; show L.length + 1 ≤ i + 1; omega, HU8.out ▸ K8.out⟩
          case measure => have := HLT.out; simp [intOf]; omega
    · obtain rfl : i = l.length := by omega
      have h1' : ¬ ((l.length : Nat) : Int) < ((l.length : Nat) : Int) := by omega
      have hMM : M = (s, L.map Prod.fst) := by rw [← HM.out, ← HREC.out, List.take_length]
      have HMM := Lib.hid hMM
      obtain ⟨c0, c1⟩ := cells2 HST.out.sb
      obtain ⟨d0, d1⟩ := cells2 HST.out.rb
      have f0 := HST.out.rb.frz 0
      have f1 := HST.out.rb.frz 1
      clear h1 hi hMM
      go_wp2_with fail
      obtain ⟨xi, ui⟩ := rset2 HST.out.rb (.int .i64 s.1) (.int .i64 s.2)
      obtain ⟨p0, p1⟩ := cells2 xi
      refine bodyPost_ret (v := .tuple #[.agg #[.int .i64 s.1, .int .i64 s.2], .slice xa L.length xc]) (by simp [results, Try.results7, go_sem, p0, p1]) rfl ⟨.slice xa L.length xc, by rw [HMM.out], L, by rw [HMM.out], ?_, HST.out.below.trans (ui.below (Nat.le_refl _))⟩
      exact bv_of_own (row_keep HST.out.row fun c hc => ui.block c (by have := (HST.out.row.lt c hc).1; omega)) fun y hy => ((HST.out.inn y hy).on (Keeps.upd ui fun b hb => by have := hb.1; omega)).now
end Go.Proofs.Ytnahebfhhcebpaa
end
section
open Go Go.RowKit
namespace TT
open SS RR FF WW BB
/-- the blocks' bytes -/
def textsB (L : List Bv) : List ByteArray := L.map fun x => blockD x.1
theorem texts_getD {L : List Bv} {i : Nat} (h : i < L.length) : (textsB L).getD i ⟨#[]⟩ = blockD (L.getD i vb0).1 := by
  unfold textsB
  simp [List.getD, List.getElem?_eq_getElem h]
theorem texts_len (L : List Bv) : (textsB L).length = L.length := by unfold textsB; rw [List.length_map]
end TT
namespace Go.Proofs.Ytnahebfhhcebpaa
open TT SS RR FF JJ CC WW BB
theorem rblockV_any (x : Bv) (w : World) (hi : InnB w x) (hs : SmallD x.1) : Calls Try.prog 21 #[bvV x] w fun e w' => e = .returned (.string (blockD x.1)) ∧ Below w.heap.size w w' :=
  rblock_any (viewI x.1) (propI x.1) (jvI x.1) (parI x.1) x.2.1 x.2.2 (sigsI x.1) x.1.2 w hi.1 hi.2 hs.1 hs.2.1 hs.2.2
/-- what is known of one block of a slice, at every later world -/
theorem bv_call {w : World} {a0 : Option Addr} {n c : Nat} {L : List Bv} (h : BvAt w (.slice a0 n c) L) (hs : ∀ x ∈ L, SmallD x.1) (i : Nat) (hi : i < L.length) : ∃ b off, a0 = some ⟨b, off, none⟩ ∧ n = L.length ∧ ∃ (pv pp pj : Int) (pk : ByteArray) (ps pr : Value),
    (∀ wx, Below w.heap.size w wx → wx.cell? ⟨b, off + i * 6, none⟩ = some (.int .i64 pv) ∧ wx.cell? ⟨b, off + i * 6 + 1, none⟩ = some (.int .i64 pp) ∧ wx.cell? ⟨b, off + i * 6 + 2, none⟩ = some (.int .i64 pj) ∧ wx.cell? ⟨b, off + i * 6 + 3, none⟩ = some (.string pk) ∧ wx.cell? ⟨b, off + i * 6 + 4, none⟩ = some ps ∧ wx.cell? ⟨b, off + i * 6 + 5, none⟩ = some pr) ∧
    (∀ wx, Below w.heap.size w wx → Calls Try.prog 21 #[.agg #[.int .i64 pv, .int .i64 pp, .int .i64 pj, .string pk, ps, pr]] wx fun e w' => e = .returned (.string ((textsB L).getD i ⟨#[]⟩)) ∧ Below wx.heap.size wx w') := by
  obtain ⟨b, off, e1, hb, e2, hc⟩ := bv_at h i hi
  refine ⟨b, off, e1, e2, viewI (L.getD i vb0).1, propI (L.getD i vb0).1, jvI (L.getD i vb0).1, parI (L.getD i vb0).1, (L.getD i vb0).2.1, (L.getD i vb0).2.2, fun wx hw => ?_, fun wx hw => ?_⟩
  · obtain ⟨h0, h1, h2, h3, h4, h5, _⟩ := hc wx hw i hi
    exact ⟨h0, h1, h2, h3, h4, h5⟩
  · obtain ⟨_, _, _, _, _, _, h6⟩ := hc wx hw i hi
    rw [texts_getD hi]
    exact rblockV_any (L.getD i vb0) wx h6 (hs _ (by rw [getD_at hi]; exact List.getElem_mem hi))
set_option maxRecDepth 100000 in
set_option maxHeartbeats 8000000 in
theorem rsame10_any (L M : List Bv) (v u : Value) (w : World) (hv : BvAt w v L) (hu : BvAt w u M) (hs : ∀ x ∈ L, SmallD x.1) (ht : ∀ x ∈ M, SmallD x.1) (hl : L.length ≤ 1000000) :
    Calls Try.prog 10 #[v, u] w fun e w' => e = .returned (.bool (decide (textsB L = textsB M))) ∧ Below w.heap.size w w' := by
  have HV := Lib.hid hv
  have HU := Lib.hid hu
  have HL := Lib.hid hl
  have HSM := Lib.hid hs
  have HTM := Lib.hid ht
  obtain ⟨a0, cap, rfl⟩ := bv_shape hv
  obtain ⟨b0, bap, rfl⟩ := bv_shape hu
  clear hl hv hu hs ht
  by_cases hlm : L.length = M.length
  · have HLM := Lib.hid hlm
    have t0 : ((L.length : Int) != (M.length : Int)) = false := by rw [hlm]; simp
    clear hlm
    obtain ⟨X, hX⟩ : ∃ X, decide (textsB L = textsB M) = X := ⟨_, rfl⟩
    have HX := Lib.hid hX
    rw [hX]
    clear hX
    go_enter Try.func10, Try.ntmps10
    go_wp2_with fail
    clear t0
    go_loopw [5] (fun v wr => ∃ i : Nat, i ≤ L.length ∧ v = .int .i64 (i : Int) ∧ (∀ j, j < i → (textsB L).getD j ⟨#[]⟩ = (textsB M).getD j ⟨#[]⟩) ∧ Below w.heap.size w wr) (fun v _ => L.length - (intOf v).toNat)
    case atStart => exact ⟨0, Nat.zero_le _, rfl, fun j hj => absurd hj (Nat.not_lt_zero _), Below.refl _ _⟩
    case round =>
      obtain ⟨i, hi, rfl, hal, hb⟩ := hrel
      have HALL := Lib.hid hal
      have HB := Lib.hid hb
      have i0 : (0 : Int) ≤ (i : Int) := by omega
      have ib : (i : Int) ≤ 1000000 := by have := HL.out; omega
      clear hal hb
      by_cases hlt : i < L.length
      · have hlt' : (i : Int) < (L.length : Int) := by omega
        have hlt2 : (i : Int) < (M.length : Int) := by rw [← HLM.out]; omega
        have HLT := Lib.hid hlt
        obtain ⟨gb, off, rfl, -, pv, pp, pj, pk, ps, pr, hc1, hk1⟩ := bv_call HV.out HSM.out i hlt
        obtain ⟨gb2, off2, rfl, -, qv, qp, qj, qk, qs, qr, hc2, hk2⟩ := bv_call HU.out HTM.out i (by omega)
        obtain ⟨x, hx⟩ : ∃ x, (textsB L).getD i ⟨#[]⟩ = x := ⟨_, rfl⟩
        obtain ⟨y, hy⟩ : ∃ y, (textsB M).getD i ⟨#[]⟩ = y := ⟨_, rfl⟩
        rw [hx] at hk1
        rw [hy] at hk2
        have HXY := Lib.hid (And.intro hx hy)
        have C1 := Lib.hid hc1
        have C2 := Lib.hid hc2
        have E1 := Lib.hid hk1
        have E2 := Lib.hid hk2
        clear hi hlt hx hy hc1 hc2 hk1 hk2
        go_wp2_with fail
        refine plan_abs (fun wx => Below w.heap.size w wx) [(true, 0), (true, 1), (true, 2), (true, 3), (true, 5), (true, 6), (true, 7), (true, 8), (false, 4), (false, 9), (true, 10)] (by kernel_rfl) (by kernel_rfl) (fun _ _ d _ _ h => by cases d <;> exact h) fun w5 hs5 => ⟨HB.out.trans ((hs5.below _).mono HB.out.size), ?_⟩
        have B5 := Lib.hid (HB.out.trans ((hs5.below _).mono HB.out.size))
        clear hs5
        iterate 8 (refine pl_run _ ?_ rfl rfl ?_ ?_; rotate_left; (focus (intro w' hS; obtain ⟨c0, c1, c2, c3, c4, c5⟩ := C1.out w' hS; obtain ⟨d0, d1, d2, d3, d4, d5⟩ := C2.out w' hS; go_simp; exact rfl)); simp only [Act.put, List.setIfInBounds_toArray, List.set_cons_zero, List.set_cons_succ, List.getElem_toArray, List.getElem_cons_zero, List.getElem_cons_succ])
        refine pl_call1 (v := .string x) (R := fun w' => Below w5.heap.size w5 w') _ rfl rfl (by go_simp) (E1.out w5 B5.out) (fun w' h => B5.out.trans (h.mono B5.out.size)) fun w6 h6 => ?_
        have B6 := Lib.hid (B5.out.trans (h6.mono B5.out.size))
        clear h6
        simp only [Act.put, List.setIfInBounds_toArray, List.set_cons_zero, List.set_cons_succ, List.getElem_toArray, List.getElem_cons_zero, List.getElem_cons_succ]
        refine pl_call1 (v := .string y) (R := fun w' => Below w6.heap.size w6 w') _ rfl rfl (by go_simp) (E2.out w6 B6.out) (fun w' h => B6.out.trans (h.mono B6.out.size)) fun w7 h7 => ?_
        have B7 := Lib.hid (B6.out.trans (h7.mono B6.out.size))
        clear h7
        simp only [Act.put, List.setIfInBounds_toArray, List.set_cons_zero, List.set_cons_succ, List.getElem_toArray, List.getElem_cons_zero, List.getElem_cons_succ]
        by_cases he : x = y
        · have t1 : (x.toList == y.toList) = true := by rw [he]; simp
          have HE := Lib.hid he
          clear he
          iterate 1 (refine pl_run _ ?_ rfl rfl ?_ ?_; rotate_left; (focus (intro w' hS; go_simp; exact rfl)); simp only [Act.put, List.setIfInBounds_toArray, List.set_cons_zero, List.set_cons_succ, List.getElem_toArray, List.getElem_cons_zero, List.getElem_cons_succ])
          refine pl_end ?_
          go_wp2_with fail
          go_roundw
          case rel => exact ⟨i + 1, by have := HLT.out; omega, by go_num, fun j hj => if h : j = i then by subst h; rw [HXY.out.1, HXY.out.2]; exact HE.out else HALL.out j (by omega), B7.out⟩
          case measure => have := HLT.out; simp [intOf]; omega
        · have t1 := ba_beq he
          have HE := Lib.hid he
          clear he
          iterate 1 (refine pl_run _ ?_ rfl rfl ?_ ?_; rotate_left; (focus (intro w' hS; go_simp; exact rfl)); simp only [Act.put, List.setIfInBounds_toArray, List.set_cons_zero, List.set_cons_succ, List.getElem_toArray, List.getElem_cons_zero, List.getElem_cons_succ])
          refine pl_end ?_
          go_wp2_with fail
          go_ret
          refine ⟨?_, B7.out⟩
          have hne : textsB L ≠ textsB M := list_ne_at (d := ⟨#[]⟩) (i := i) (by rw [HXY.out.1, HXY.out.2]; exact HE.out)
          rw [← HX.out]; simp [hne]
      · obtain rfl : i = L.length := by omega
        have hlt' : ¬ (L.length : Int) < (L.length : Int) := by omega
        clear hi hlt
        go_wp2_with fail
        go_ret
        refine ⟨?_, HB.out⟩
        have he : textsB L = textsB M := list_eq_at (by rw [texts_len, texts_len]; exact HLM.out) (fun j hj => HALL.out j (by rwa [texts_len] at hj))
        rw [← HX.out]; simp [he]
  · have t0 : ((L.length : Int) != (M.length : Int)) = true := by rw [bne_iff_ne]; omega
    have HLM := Lib.hid hlm
    clear hlm
    go_enter Try.func10, Try.ntmps10
    go_wp2_with fail
    go_ret
    refine ⟨?_, Below.refl _ _⟩
    have hne : textsB L ≠ textsB M := fun h => HLM.out (by have := congrArg List.length h; rwa [texts_len, texts_len] at this)
    simp [hne]
end Go.Proofs.Ytnahebfhhcebpaa
end
