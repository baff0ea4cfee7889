/-
  The walk of the reference's RightBlock.
-/
import Derived.Test.YtbeodmijjanmeaaWRightC
import Derived.Test.YtbeodmijjanmeaaWReqLaw
open Go Go.RowKit
namespace WW
open BB
instance (c q : Int) (s : ByteArray) : Decidable (rightR c q s) := by unfold rightR; infer_instance
/-- a right block -/
def rightBlock (v p cv : Int) (k : ByteArray) (l : List (Int × List ByteArray)) (m : List (Int × Int × ByteArray)) : Bool :=
  (decide (1 ≤ v) && (decide (v ≤ 1000000) && (decide (0 ≤ p) && (decide (p ≤ 6) && (rightCert cv k l && (decide (cv < v) && decide (m.length ≤ 3))))))) && m.all (fun r => decide (rightR r.1 r.2.1 r.2.2))
/-- the block's first fields are wrong, by the first thing that is -/
def BadB (v p : Int) : Prop := v < 1 ∨ 1 ≤ v ∧ ((1000000 : Int) < v ∨ v ≤ 1000000 ∧ (p < 0 ∨ 0 ≤ p ∧ 6 < p))
end WW
namespace Go.Proofs.Ytbeodmijjanmeaa
open WW BB
theorem rightreq_any (c q : Int) (s : ByteArray) (w : World) :
    Calls Try.prog 21 #[.agg #[.int .i64 c, .int .i64 q, .string s]] w fun e w' => e = .returned (.bool (decide (rightR c q s))) ∧ Below w.heap.size w w' := by
  by_cases h : rightR c q s
  · refine (right_yes c q s h w).mono ?_
    rintro e w' ⟨rfl, hb⟩
    exact ⟨by rw [decide_eq_true h], hb⟩
  · refine (right_no c q s (wrong_of h) w).mono ?_
    rintro e w' ⟨rfl, hb⟩
    exact ⟨by rw [decide_eq_false h], hb⟩
set_option maxRecDepth 100000 in
set_option maxHeartbeats 4000000 in
theorem rightblock_bad (v p cv : Int) (k : ByteArray) (sv rv : Value) (w : World) (h : BadB v p) :
    Calls Try.prog 16 #[.agg #[.int .i64 v, .int .i64 p, .int .i64 cv, .string k, sv, rv]] w fun e w' => e = .returned (.bool false) ∧ Below w.heap.size w w' := by
  rcases h with h | ⟨h0, h | ⟨h1, h | ⟨h2, h⟩⟩⟩
  all_goals
    go_enter Try.func16, Try.ntmps16
    go_wp2_with fail
    go_ret
    exact ⟨rfl, (Below.refl _ _).alloc (Nat.le_refl _) _⟩
set_option maxRecDepth 100000 in
set_option maxHeartbeats 4000000 in
theorem rightblock_ok (v p cv : Int) (k : ByteArray) (sv rv : Value) (l : List (Int × List ByteArray)) (m : List (Int × Int × ByteArray)) (w : World) (hv : SigsAt w sv l) (hr : ReqsAt w rv m) (hn : MemS l) (h0 : 1 ≤ v) (h1 : v ≤ 1000000) (h2 : 0 ≤ p) (h3 : p ≤ 6) :
    Calls Try.prog 16 #[.agg #[.int .i64 v, .int .i64 p, .int .i64 cv, .string k, sv, rv]] w fun e w' => e = .returned (.bool ((rightCert cv k l && (decide (cv < v) && decide (m.length ≤ 3))) && m.all (fun r => decide (rightR r.1 r.2.1 r.2.2)))) ∧ Below w.heap.size w w' := by
  obtain ⟨X, hX⟩ : ∃ X, ((rightCert cv k l && (decide (cv < v) && decide (m.length ≤ 3))) && m.all (fun r => decide (rightR r.1 r.2.1 r.2.2))) = X := ⟨_, rfl⟩
  rw [hX]
  have HX := Lib.hid hX
  have HV := Lib.hid hv
  have HN := Lib.hid hn
  have HR := Lib.hid hr
  obtain ⟨a0, cap, rfl, hx⟩ := hv
  obtain ⟨a1, cap1, rfl, hx1⟩ := hr
  clear hn hx hX hx1
  go_enter Try.func16, Try.ntmps16
  go_wp2_with fail
  have B0 := box_mk w [.int .i64 v, .int .i64 p, .int .i64 cv, .string k, .slice a0 l.length cap, .slice a1 m.length cap1] 31
  rw [show [Value.int .i64 v, .int .i64 p, .int .i64 cv, .string k, .slice a0 l.length cap, .slice a1 m.length cap1].toArray = #[.int .i64 v, .int .i64 p, .int .i64 cv, .string k, .slice a0 l.length cap, .slice a1 m.length cap1] from rfl] at B0
  obtain ⟨g, hg⟩ : ∃ g, w.heap.size = g := ⟨_, rfl⟩
  rw [hg] at B0 ⊢
  clear hg
  generalize w.alloc (.cells #[.int .i64 v, .int .i64 p, .int .i64 cv, .string k, .slice a0 l.length cap, .slice a1 m.length cap1] 31) = w0 at *
  refine (rightcert_any cv k _ l w0 (HV.out.later B0.below) HN.out).mono ?_
  rintro e w1 ⟨rfl, hb1⟩
  have B1 := B0.on hb1
  have HB1 := Lib.hid B1
  clear B0 hb1
  have c0 := B1.cell 0 _ rfl
  have c2 := B1.cell 2 _ rfl
  have c3 := B1.cell 3 _ rfl
  have c4 := B1.cell 4 _ rfl
  have c5 := B1.cell 5 _ rfl
  clear B1
  rcases hC : rightCert cv k l with _ | _
  · rw [hC] at HX
    have HC := Lib.hid hC
    clear hC
    go_wp2_with fail
    go_ret
    exact ⟨by rw [← HX.out]; rfl, HB1.out.below⟩
  rw [hC] at HX
  have HC := Lib.hid hC
  clear hC
  by_cases hcv : cv < v
  · have hcv' : ¬ v ≤ cv := by omega
    by_cases hm3 : m.length ≤ 3
    · have hm3' : ¬ (3 : Int) < (m.length : Int) := by omega
      have hX2 : X = m.all (fun r => decide (rightR r.1 r.2.1 r.2.2)) := by rw [← HX.out]; simp [hcv, hm3]
      have HX2 := Lib.hid hX2
      have HM3 := Lib.hid hm3
      clear hm3 hX2
      go_wp2_with fail
      go_loopw [3] (fun x wr => ∃ i : Nat, i ≤ m.length ∧ x = .int .i64 (i : Int) ∧ (m.take i).all (fun r => decide (rightR r.1 r.2.1 r.2.2)) = true ∧ BoxAt w g [.int .i64 v, .int .i64 p, .int .i64 cv, .string k, .slice a0 l.length cap, .slice a1 m.length cap1] wr) (fun x _ => m.length - (intOf x).toNat)
      case atStart => exact ⟨0, Nat.zero_le _, rfl, rfl, HB1.out⟩
      case round =>
        clear HB1 c0 c2 c3 c4 c5
        clear w1
        obtain ⟨i, hi, rfl, hall, hbox⟩ := hrel
        have HALL := Lib.hid hall
        have HBX := Lib.hid hbox
        have i0 : (0 : Int) ≤ (i : Int) := by omega
        have ib : (i : Int) ≤ 3 := by omega
        have c5 := hbox.cell 5 _ rfl
        clear hall hbox
        by_cases hlt : i < m.length
        · have hlt' : (i : Int) < (m.length : Int) := by omega
          obtain ⟨a2, cap2, he, hv | ⟨gb, off, rfl, hbw, hcell⟩⟩ := HR.out
          · rw [hv] at hlt; simp at hlt
          injection he with e1 _ e3
          subst e1 e3
          obtain ⟨hc0, hc1, hc2⟩ := hcell i hlt
          have hcl0 := (HBX.out.below.cell (p := ⟨gb, off + i * 3, none⟩) hbw).trans hc0
          have hcl1 := (HBX.out.below.cell (p := ⟨gb, off + i * 3 + 1, none⟩) hbw).trans hc1
          have hcl2 := (HBX.out.below.cell (p := ⟨gb, off + i * 3 + 2, none⟩) hbw).trans hc2
          have HSN := Lib.hid (all_take_snoc (fun r : Int × Int × ByteArray => decide (rightR r.1 r.2.1 r.2.2)) m (0, 0, ⟨#[]⟩) i hlt)
          obtain ⟨s, hs⟩ : ∃ s, (m.getD i (0, 0, ⟨#[]⟩)) = s := ⟨_, rfl⟩
          rw [hs] at hcl0 hcl1 hcl2 HSN
          obtain ⟨rc, rq, rs⟩ := s
          have HLT := Lib.hid hlt
          clear hs hlt hi hcell hbw hc0 hc1 hc2
          go_wp2_with fail
          refine (rightreq_any rc rq rs wr).mono ?_
          rintro e w4 ⟨rfl, hb4⟩
          have HB4 := Lib.hid (HBX.out.on hb4)
          clear hb4
          by_cases hq : rightR rc rq rs
          · rw [decide_eq_true hq]
            have HQ := Lib.hid hq
            clear hq
            go_wp2_with fail
            go_roundw
            case rel => exact ⟨i + 1, by have := HLT.out; omega, by go_num, by rw [HSN.out, HALL.out]; simpa using HQ.out, HB4.out⟩
            case measure => have := HLT.out; simp [intOf]; omega
          · rw [decide_eq_false hq]
            have HQ := Lib.hid hq
            clear hq
            go_wp2_with fail
            go_ret
            refine ⟨?_, HB4.out.below⟩
            have h1 := HSN.out
            rw [show decide (rightR rc rq rs) = false by simpa using HQ.out, Bool.and_false] at h1
            have h2 := all_take_mono _ m (i + 1) m.length (by have := HLT.out; omega) h1
            rw [List.take_length] at h2
            rw [HX2.out, h2]; rfl
        · obtain rfl : i = m.length := by omega
          have hlt' : ¬ (m.length : Int) < (m.length : Int) := by omega
          rw [List.take_length] at HALL
          clear hlt hi
          go_wp2_with fail
          go_ret
          exact ⟨by rw [HX2.out, HALL.out]; rfl, HBX.out.below⟩
    · have hm3' : (3 : Int) < (m.length : Int) := by omega
      have hX2 : X = false := by rw [← HX.out]; simp [hm3]
      have HX2 := Lib.hid hX2
      clear hm3 hX2
      go_wp2_with fail
      go_ret
      exact ⟨by rw [HX2.out]; rfl, HB1.out.below⟩
  · have hcv' : v ≤ cv := by omega
    have hX2 : X = false := by rw [← HX.out]; simp [hcv]
    have HX2 := Lib.hid hX2
    clear hX2 hcv
    go_wp2_with fail
    go_ret
    exact ⟨by rw [HX2.out]; rfl, HB1.out.below⟩
theorem rightblock_any (v p cv : Int) (k : ByteArray) (sv rv : Value) (l : List (Int × List ByteArray)) (m : List (Int × Int × ByteArray)) (w : World) (hv : SigsAt w sv l) (hr : ReqsAt w rv m) (hn : MemS l) :
    Calls Try.prog 16 #[.agg #[.int .i64 v, .int .i64 p, .int .i64 cv, .string k, sv, rv]] w fun e w' => e = .returned (.bool (rightBlock v p cv k l m)) ∧ Below w.heap.size w w' := by
  by_cases hb : BadB v p
  · refine (rightblock_bad v p cv k sv rv w hb).mono ?_
    rintro e w' ⟨rfl, h⟩
    refine ⟨?_, h⟩
    rw [show rightBlock v p cv k l m = false from ?_]
    unfold rightBlock
    rcases hb with h | ⟨h0, h | ⟨h1, h | ⟨h2, h⟩⟩⟩
    · rw [show decide (1 ≤ v) = false by simp; omega]; simp
    · rw [show decide (v ≤ 1000000) = false by simp; omega]; simp
    · rw [show decide (0 ≤ p) = false by simp; omega]; simp
    · rw [show decide (p ≤ 6) = false by simp; omega]; simp
  · have hg : 1 ≤ v ∧ v ≤ 1000000 ∧ 0 ≤ p ∧ p ≤ 6 := by unfold BadB at hb; omega
    obtain ⟨h0, h1, h2, h3⟩ := hg
    refine (rightblock_ok v p cv k sv rv l m w hv hr hn h0 h1 h2 h3).mono ?_
    rintro e w' ⟨rfl, h⟩
    refine ⟨?_, h⟩
    unfold rightBlock
    simp [h0, h1, h2, h3]
end Go.Proofs.Ytbeodmijjanmeaa
