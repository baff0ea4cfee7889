/-
  The walk of the code's Records.
-/
import Derived.Test.YthajnkcipifhcaaGreatDoorKSWalkC
import Derived.RangeFuncNested
import Derived.RangeFuncBound
import Derived.RangeFuncCalls
import Derived.RangeFuncLeaves
import Derived.RangeFuncBox
import Derived.Shelf.Abstract
import Derived.Shelf.RegionOpen
import Derived.WalkKit
import Derived.OwnWalkIn
import Derived.TacticsInMore
import Derived.LoopNIn
import Derived.LoopIn
import Derived.Test.YthajnkcipifhcaaGreatDoorKERefS
import Derived.Maps.AppendAt
section
open Go Go.RowKit
namespace SS
open RR FF CC WW BB
theorem hn_step8 (bs : ByteArray) (k : Nat) (hk : k < 4) (hb : k < bs.size) : bits .or .u32 ((hn bs k : Int) * 256 % 4294967296) ((sb bs.data.toList k : Int) % 4294967296) = (hn bs (k + 1) : Int) := by
  have := hn_step bs k hk hb
  rw [get_byte, IntKind.wrap_u32', IntKind.wrap_u32'] at this
  exact this
end SS
namespace Go.Proofs.YthajnkcipifhcaaGreatDoor
open SS RR FF CC WW BB
set_option maxRecDepth 100000 in
set_option maxHeartbeats 2000000 in
theorem snum_is (b off cap : Nat) (bs : ByteArray) (x : Nat) (w : World) (h : BAt w b off bs) (h4 : 4 ≤ bs.size) (hc : bs.size ≤ cap) (hx : rd4 bs = x) :
    Calls Tryz.prog 233 #[.slice (some ⟨b, off, none⟩) bs.size cap] w fun e w' => e = .returned (.int .i64 (x : Int)) ∧ w' = w := by
  have H := Lib.hid h
  have H4 := Lib.hid h4
  have HX := Lib.hid hx
  have HX2 := Lib.hid (show wrap64 (x : Int) = (x : Int) by have h := rd4_lt bs; exact IntWalk.wrap64_in _ (by omega))
  have q1 : (4 : Int) ≤ (cap : Int) := by omega
  have q2 : ¬ cap = 0 := by omega
  clear h hx h4 hc
  go_enter Tryz.func233, Tryz.ntmps233
  go_wp2_with fail
  go_loop [3, 9] (fun n i => ∃ k : Nat, k ≤ 4 ∧ i = .int .i64 (k : Int) ∧ n = .int .u32 (hn bs k : Int)) (fun _ i => 4 - (intOf i).toNat)
  case atStart => exact ⟨0, by omega, rfl, rfl⟩
  case round =>
    obtain ⟨k, hk, rfl, rfl⟩ := hrel
    by_cases hlt : k < 4
    · have h1 : k < bs.size := by have := H4.out; omega
      have h2 : (k : Int) < 4 := by omega
      have h3 : (0 : Int) ≤ (k : Int) := by omega
      have hcell : w.cell? ⟨b, off + k, none⟩ = some (.int .u8 ((sb bs.data.toList k : Nat) : Int)) := H.out k h1
      have E := Lib.hid (hn_step8 bs k hlt h1)
      have HLT := Lib.hid hlt
      clear hk h1
      go_wp2_with fail
      go_round
      case rel => exact ⟨k + 1, by have := HLT.out; omega, by go_num, by rw [E.out]⟩
      case measure => have := HLT.out; simp [intOf]; omega
    · obtain rfl : k = 4 := by omega
      have h2 : ¬ ((4 : Nat) : Int) < 4 := by omega
      have E := Lib.hid (show hn bs 4 = x by rw [hn_four]; exact HX.out)
      go_wp2_with fail
      go_ret
      refine ⟨?_, rfl⟩
      show Ending.returned (.int .i64 (wrap64 (hn bs 4 : Int))) = _
      rw [E.out, HX2.out]
set_option maxRecDepth 100000 in
theorem first_short (a0 : Option Addr) (n cap : Nat) (w : World) (h : n < 4) :
    Calls Tryz.prog 175 #[.slice a0 n cap] w fun e w' => e = .returned (.tuple #[.slice none 0 0, .bool false]) ∧ Same w w' := by
  have h4 : (n : Int) < 4 := by omega
  clear h
  go_enter Tryz.func175, Tryz.ntmps175
  go_wp2_with fail
  go_ret2
  exact ⟨rfl, Same.refl _⟩
set_option maxRecDepth 100000 in
set_option maxHeartbeats 2000000 in
theorem first_no (b off cap : Nat) (bs : ByteArray) (w : World) (h : BAt w b off bs) (hc : bs.size ≤ cap) (h4 : 4 ≤ bs.size) (ho : okR bs = false) :
    Calls Tryz.prog 175 #[.slice (some ⟨b, off, none⟩) bs.size cap] w fun e w' => e = .returned (.tuple #[.slice none 0 0, .bool false]) ∧ Same w w' := by
  have H := Lib.hid h
  have H4 := Lib.hid h4
  have HC := Lib.hid hc
  have HO := Lib.hid (ok_no ho)
  have q1 : ¬ (bs.size : Int) < 4 := by omega
  have q2 : (4 : Int) ≤ (bs.size : Int) := by omega
  obtain ⟨N, hN⟩ : ∃ N, rd4 bs = N := ⟨_, rfl⟩
  have HN := Lib.hid hN
  clear h hc h4 ho hN
  go_enter Tryz.func175, Tryz.ntmps175
  go_upto_region 3 with fail
  refine quiet_abs (by kernel_rfl) (by kernel_rfl) fun w2 hs2 => ?_
  have Y2 := Lib.hid hs2
  clear hs2
  iterate 1 still_step
  still_call (snum_is b off cap bs N w2 (H.out.of_heap (by rw [Y2.out.heap])) H4.out HC.out HN.out)
  iterate 4 still_step
  refine wpStill_nil ?_
  by_cases hcap : cap = 4
  all_goals (
    by_cases h1 : (decide (1 ≤ (N : Int)) && decide ((N : Int) ≤ 4000)) = true
    · have HR := Lib.hid h1
      have hgt : (bs.size : Int) - 4 < (N : Int) := by
        have hno := HO.out
        have h4 := H4.out
        rw [HN.out] at hno
        rw [Bool.and_eq_true, decide_eq_true_eq, decide_eq_true_eq] at h1
        omega
      have hgt2 : bs.size - 4 < N := by have := H4.out; omega
      clear h1
      go_wp2_with fail
      refine (possible_is _ true HR.out _).mono ?_
      rintro e w3 ⟨rfl, hw⟩
      have hw := hw.symm
      subst hw
      go_wp2_with fail
      go_ret2
      exact ⟨rfl, Y2.out⟩
    · have HR := Lib.hid (show (decide (1 ≤ (N : Int)) && decide ((N : Int) ≤ 4000)) = false by simpa using h1)
      clear h1
      go_wp2_with fail
      refine (possible_is _ false HR.out _).mono ?_
      rintro e w3 ⟨rfl, hw⟩
      have hw := hw.symm
      subst hw
      go_wp2_with fail
      go_ret2
      exact ⟨rfl, Y2.out⟩)
set_option maxRecDepth 100000 in
set_option maxHeartbeats 2000000 in
theorem first_yes (b off cap : Nat) (bs : ByteArray) (N : Nat) (w : World) (h : BAt w b off bs) (hc : bs.size ≤ cap) (ho : okR bs = true) (hN : rd4 bs = N) :
    Calls Tryz.prog 175 #[.slice (some ⟨b, off, none⟩) bs.size cap] w fun e w' => e = .returned (.tuple #[.slice (some ⟨b, off + 4, none⟩) N (cap - 4), .bool true]) ∧ Same w w' := by
  have H := Lib.hid h
  have hy := ok_yes ho
  rw [hN] at hy
  have H4 := Lib.hid hy.1
  have HC := Lib.hid hc
  have q1 : ¬ (bs.size : Int) < 4 := by omega
  have q2 : (4 : Int) ≤ (bs.size : Int) := by omega
  have q3 : ¬ cap = 4 := by omega
  have q3' : cap ≠ 4 := q3
  have q4 : ¬ (bs.size : Int) - 4 < (N : Int) := by omega
  have q4' : ¬ bs.size - 4 < N := by omega
  have q5 : (0 : Int) ≤ (N : Int) := by omega
  have q6 : (N : Int) ≤ ((cap - 4 : Nat) : Int) := by omega
  have q7 : ¬ cap - 4 = 0 := by omega
  have HR := Lib.hid (show (decide (1 ≤ (N : Int)) && decide ((N : Int) ≤ 4000)) = true by rw [decide_eq_true (by omega), decide_eq_true (by omega)]; rfl)
  have HN := Lib.hid hN
  clear h hc hy ho hN
  go_enter Tryz.func175, Tryz.ntmps175
  go_upto_region 3 with fail
  refine quiet_abs (by kernel_rfl) (by kernel_rfl) fun w2 hs2 => ?_
  have Y2 := Lib.hid hs2
  clear hs2
  iterate 1 still_step
  still_call (snum_is b off cap bs N w2 (H.out.of_heap (by rw [Y2.out.heap])) H4.out HC.out HN.out)
  iterate 4 still_step
  refine wpStill_nil ?_
  go_wp2_with fail
  refine (possible_is _ true HR.out _).mono ?_
  rintro e w3 ⟨rfl, hw⟩
  have hw := hw.symm
  subst hw
  go_wp2_with fail
  go_ret2
  exact ⟨rfl, Y2.out⟩
end Go.Proofs.YthajnkcipifhcaaGreatDoor
end
section
open Go Go.RowKit
namespace SS
open RR FF CC WW BB
/-- a record in a block: its bytes, where they lie, and their slice's room -/
def SegIs (w0 : World) (bb : Nat) (x : ByteArray × Nat × Nat) : Prop := BAt w0 bb x.2.1 x.1 ∧ bb < w0.heap.size ∧ x.1.size ≤ 4000
def Seg (w0 : World) (bb : Nat) : Type := { x : ByteArray × Nat × Nat // SegIs w0 bb x }
def Seg.bytes {w0 : World} {bb : Nat} (x : Seg w0 bb) : ByteArray := x.1.1
def encSeg {w0 : World} {bb : Nat} (x : Seg w0 bb) : Array Value := #[.slice (some ⟨bb, x.1.2.1, none⟩) x.1.1.size x.1.2.2]
theorem seg_mk {w0 : World} {bb : Nat} (r : ByteArray) (off cap N : Nat) (h : SegIs w0 bb (r, off, cap)) (hr : r.size = N) : ∃ x : Seg w0 bb, encSeg x = #[.slice (some ⟨bb, off, none⟩) N cap] ∧ x.bytes = r := by
  subst hr
  exact ⟨⟨(r, off, cap), h⟩, rfl, rfl⟩
theorem seg_next {w0 : World} {bb : Nat} {L : List ByteArray} {pre : List (Seg w0 bb)} {x : Seg w0 bb} {r : ByteArray} {A B : List ByteArray × Nat} {k : Nat} (h1 : L = pre.map Seg.bytes ++ A.1) (h2 : A = (r :: B.1, k)) (hx : x.bytes = r) : L = (pre ++ [x]).map Seg.bytes ++ B.1 := by
  subst h2 hx
  rw [h1]
  simp
theorem seg_len {w0 : World} {bb : Nat} {L : List ByteArray} {pre : List (Seg w0 bb)} {r : ByteArray} {A B : List ByteArray × Nat} {k : Nat} (h1 : L = pre.map Seg.bytes ++ A.1) (h2 : A = (r :: B.1, k)) : pre.length < L.length := by
  subst h2
  rw [h1]
  simp
/-- v is a slice of the bytes bs, in block bb -/
def RestIs (w0 : World) (bb : Nat) (v : Value) (bs : ByteArray) : Prop := ∃ a cap, v = .slice a bs.size cap ∧ bs.size ≤ cap ∧ (bs.size = 0 ∨ ∃ off, a = some ⟨bb, off, none⟩ ∧ bb < w0.heap.size ∧ BAt w0 bb off bs)
def lenSl : Value → Nat
  | .slice _ k _ => k
  | _ => 0
theorem rest_byrow {w0 : World} {a0 : Option Addr} {n cap : Nat} {bs : ByteArray} (h : ByRow w0 (.slice a0 n cap) bs) : ∃ bb, RestIs w0 bb (.slice a0 n cap) bs := by
  rcases h with ⟨e, h0⟩ | ⟨b, cap', e, h1, h2, h3, _⟩
  · simp only [Value.slice.injEq] at e
    obtain ⟨rfl, rfl, rfl⟩ := e
    exact ⟨0, none, 0, by rw [h0], by omega, .inl h0⟩
  · simp only [Value.slice.injEq] at e
    obtain ⟨rfl, rfl, rfl⟩ := e
    exact ⟨b, _, _, rfl, h1, .inr ⟨0, rfl, h2, h3⟩⟩
theorem abides_belowS {β : Type} {n : Nat} {J : β → World → Prop} (h : AbidesFrom n J) {s : β} {w w' : World} (hs : J s w) (hb : Below w.heap.size w w') : J s w' := h s w w' none hs ⟨hb.os, hb.tape, hb.output, hb.size, fun k hk _ => hb.block k hk⟩ (fun r e => by cases e)
end SS
namespace Go.Proofs.YthajnkcipifhcaaGreatDoor
open SS RR FF CC WW BB
theorem first_none {w0 : World} {bb : Nat} {a : Option Addr} {cap : Nat} {bx : ByteArray} (hc : bx.size ≤ cap) (h : bx.size = 0 ∨ ∃ off, a = some ⟨bb, off, none⟩ ∧ bb < w0.heap.size ∧ BAt w0 bb off bx) (ho : okR bx = false) (w : World) (hb : Below w0.heap.size w0 w) :
    Calls Tryz.prog 175 #[.slice a bx.size cap] w fun e w' => e = .returned (.tuple #[.slice none 0 0, .bool false]) ∧ Same w w' := by
  by_cases h4 : bx.size < 4
  · exact first_short a bx.size cap w h4
  · rcases h with h | ⟨off, rfl, hl, hB⟩
    · omega
    · exact first_no bb off cap bx w (hB.of_heap (hb.block bb hl)) hc (by omega) ho
attribute [local go_sem] Oper.semAt_some
set_option maxRecDepth 100000 in
set_option maxHeartbeats 2000000 in
theorem recs_in {w0 : World} {bb : Nat} (bs : ByteArray) (v : Value) (hv : RestIs w0 bb v bs) (n l Bx nb : Nat) (hn : 1 ≤ n) (J Jx : List (Seg w0 bb) → World → Prop)
    (hJ : AbidesFrom nb J)
    (hY : ∀ pre x W, J pre W → pre.length < (splitS bs).1.length → YieldAt Fence.wide (n - 1) Tryz.prog l (encSeg x) W fun e W' => (e = .returned (.bool true) ∧ J (pre ++ [x]) W' ∧ Below w0.heap.size W W') ∨ (e = .returned (.bool false) ∧ Jx (pre ++ [x]) W'))
    (W : World) (hW : Below w0.heap.size w0 W) (cx : W.cell? ⟨Bx, 0, none⟩ = some v) (h0 : J [] W) :
    CallsIn Fence.wide n Tryz.prog 174 #[.func (.yield l) #[] #[], .pointer (some ⟨Bx, 0, none⟩)] W fun e W' => (∃ v, e = .returned v) ∧ ((∃ ys, ys.map Seg.bytes = (splitS bs).1 ∧ J ys W') ∨ (∃ pre, True ∧ Jx pre W')) := by
  have HV := Lib.hid hv
  have HJ := Lib.hid hJ
  have HY := Lib.hid hY
  have HW := Lib.hid hW
  have HN := Lib.hid hn
  obtain ⟨va, vc, hv', _⟩ := hv
  subst hv'
  clear hJ hY hW hn
  refine callsIn_of_wp Tryz.func174 rfl trivial ?_ rfl
  simp only [Tryz.ntmps174, List.size_toArray, List.length_cons, List.length_nil, Nat.reduceAdd, Nat.reduceSub, Array.replicate_succ, Array.replicate_zero, List.push_toArray, List.append_toArray, List.nil_append, List.cons_append]
  gi_wp2
  gi_loopw [3] (fun p wr => ∃ (pre : List (Seg w0 bb)) (bx : ByteArray), RestIs w0 bb p bx ∧ (splitS bs).1 = pre.map Seg.bytes ++ (splitS bx).1 ∧ Below w0.heap.size w0 wr ∧ J pre wr) (fun p _ => lenSl p)
  case atStart => exact ⟨[], bs, HV.out, rfl, HW.out, h0⟩
  case round =>
    obtain ⟨pre, bx, ⟨a, cap, rfl, hcap, hbx⟩, hpx, hbr, hJs⟩ := hrel
    have HPX := Lib.hid hpx
    have HBR := Lib.hid hbr
    have HJS := Lib.hid hJs
    have HCP := Lib.hid hcap
    clear hpx hbr hJs hcap
    cases ho : okR bx with
    | false =>
      have HO := Lib.hid ho
      have HBX := Lib.hid hbx
      clear ho hbx
      gi_wp2_with fail
      refine ⟨trivial, fun _ => HN.out, ?_⟩
      refine (callsIn_wide.2 (first_none HCP.out HBX.out HO.out wr HBR.out)).mono ?_
      rintro e w2 ⟨rfl, hs2⟩
      have HJ2 := Lib.hid (abides_belowS HJ.out HJS.out (hs2.below _))
      clear hs2
      gi_wp2
      refine ⟨fun _ h => (by cases h), ?_⟩
      gi_wp2
      refine bodyPost_ret (results_none rfl _ _ _) rfl ?_
      exact ⟨⟨_, rfl⟩, .inl ⟨pre, by rw [HPX.out, split_no HO.out]; simp, HJ2.out⟩⟩
    | true =>
      have hy := ok_yes ho
      obtain ⟨off, rfl, hl, hB⟩ : ∃ off, a = some ⟨bb, off, none⟩ ∧ bb < w0.heap.size ∧ BAt w0 bb off bx := by
        rcases hbx with h | h
        · omega
        · exact h
      have HB := Lib.hid hB
      have HLB := Lib.hid hl
      have HSY := Lib.hid (split_yes ho)
      have HHS := Lib.hid (head_size ho)
      have HRS := Lib.hid (rest_size ho)
      obtain ⟨N, hN⟩ : ∃ N, rd4 bx = N := ⟨_, rfl⟩
      have HNN := Lib.hid hN
      rw [hN] at hy HHS HRS HSY
      have HX := Lib.hid (show SegIs w0 bb (headR bx, off + 4, cap - 4) from ⟨by have := hB.ext 4 (4 + rd4 bx) (by omega); exact this, hl, by show (headR bx).size ≤ 4000; rw [HHS.out]; omega⟩)
      have HO := Lib.hid ho
      have HC4 := Lib.hid (show 4 + N ≤ bx.size by omega)
      obtain ⟨M, hM⟩ : ∃ M, 4 + N = M := ⟨_, rfl⟩
      have hMc : M ≤ bx.size := by omega
      have HZ0 := Lib.hid (show cap = M → bx.size = M from fun h => by have := HCP.out; omega)
      have HZ1 := Lib.hid (show cap = M → (restR bx).size = 0 from fun h => by have := HRS.out; have := HCP.out; omega)
      have HZ2 := Lib.hid (show 0 < bx.size by omega)
      have HZ3 := Lib.hid (show (restR bx).size = bx.size - M ∧ (restR bx).size ≤ cap - M ∧ bx.size - M < bx.size by have := HRS.out; have := HCP.out; omega)
      have HRB := Lib.hid (show BAt w0 bb (off + M) (restR bx) by have h := hB.ext M bx.size (Nat.le_refl _); have e : bx.extract M bx.size = restR bx := by rw [← hM, ← HNN.out]; rfl
                                                                  rw [e] at h; exact h)
      have g0 : (0 : Int) ≤ (M : Int) := by omega
      have g1 : (M : Int) ≤ (bx.size : Int) := by omega
      have g2 : IntKind.i64.wrap (4 + (N : Int)) = (M : Int) := by rw [← hM]; exact IntWalk.i64_in _ (by omega)
      clear ho hbx hB hl hN hy hM hMc
      gi_wp2_with fail
      refine ⟨trivial, fun _ => HN.out, ?_⟩
      refine (callsIn_wide.2 (first_yes bb off cap bx N wr (HB.out.of_heap (HBR.out.block bb HLB.out)) HCP.out HO.out HNN.out)).mono ?_
      rintro e w2 ⟨rfl, hs2⟩
      have HB2 := Lib.hid (HBR.out.trans (hs2.below _))
      have HJ2 := Lib.hid (abides_belowS HJ.out HJS.out (hs2.below _))
      clear hs2
      obtain ⟨x, hen, hxx⟩ := seg_mk (headR bx) (off + 4) (cap - 4) N HX.out HHS.out
      have HXX := Lib.hid hxx
      have hyx := HY.out pre x w2 HJ2.out (seg_len HPX.out HSY.out)
      rw [hen] at hyx
      obtain ⟨fn, tmps, assign, body, hy, hR⟩ := hyx
      have HR := Lib.hid hR
      clear hR hen hxx
      gi_wp2_with fail
      refine ⟨fun _ => HN.out, HR.out.mono ?_⟩
      clear hy HR
      rintro e w3 (⟨rfl, hJ3, hk3⟩ | ⟨rfl, hJx3⟩)
      · have HJ3 := Lib.hid hJ3
        have HB3 := Lib.hid (HB2.out.trans hk3)
        clear hJ3 hk3
        by_cases hcap : cap = M
        · have hcapz := HZ0.out hcap
          gi_wp2
          go_roundw
          case rel =>
            clear g0 g1 g2
            exact ⟨pre ++ [x], restR bx, ⟨some ⟨bb, off, none⟩, 0, by rw [HZ1.out hcap], by rw [HZ1.out hcap]; exact Nat.le_refl _, .inl (HZ1.out hcap)⟩, seg_next HPX.out HSY.out HXX.out, HB3.out, HJ3.out⟩
          case measure =>
            clear g0 g1 g2
            exact HZ2.out
        · gi_wp2
          go_roundw
          case rel =>
            clear g0 g1 g2
            exact ⟨pre ++ [x], restR bx, ⟨_, cap - M, by rw [HZ3.out.1], HZ3.out.2.1, .inr ⟨off + M, rfl, HLB.out, HRB.out⟩⟩, seg_next HPX.out HSY.out HXX.out, HB3.out, HJ3.out⟩
          case measure =>
            clear g0 g1 g2
            exact HZ3.out.2.2
      · gi_wp2
        refine bodyPost_ret (results_none rfl _ _ _) rfl ?_
        exact ⟨⟨_, rfl⟩, .inr ⟨pre ++ [x], trivial, hJx3⟩⟩
/-- the iterator keeps its contract -/
theorem recs_stops {w0 : World} {bb : Nat} (bs : ByteArray) (v : Value) (hv : RestIs w0 bb v bs) (n : Nat) (hn : 1 ≤ n) (w : World) (hw : Below w0.heap.size w0 w) (Bx : Nat) (cx : w.cell? ⟨Bx, 0, none⟩ = some v) :
    SeqStopsK Fence.wide n Tryz.prog 174 #[.pointer (some ⟨Bx, 0, none⟩)] (encSeg (w0 := w0) (bb := bb)) (Below w0.heap.size) (fun ys => ys.map Seg.bytes = (splitS bs).1) (fun _ => True) (splitS bs).1.length w := fun l J Jx W hW hJ _ hY h0 =>
  recs_in bs v hv n l Bx W.heap.size hn J Jx hJ hY W (hw.trans (hW.mono hw.size)) ((World.cell?_of_block (a := ⟨Bx, 0, none⟩) (hW.block Bx (World.block_lt_of_cell? w _ cx))).trans cx) h0
set_option maxRecDepth 100000 in
set_option maxHeartbeats 1000000 in
theorem recs_any (a0 : Option Addr) (n cap : Nat) (w : World) :
    Calls Tryz.prog 125 #[.slice a0 n cap] w fun e w' => e = .returned (.func (.func 174) #[] #[.pointer (some ⟨w.heap.size, 0, none⟩)]) ∧ w' = w.alloc (.cells #[.slice a0 n cap] 99) := by
  go_enter Tryz.func125, Tryz.ntmps125
  go_wp2_with fail
  go_ret
  exact ⟨rfl, rfl⟩
end Go.Proofs.YthajnkcipifhcaaGreatDoor
end
section
open Go Go.RowKit
namespace SS
open RR FF CC WW BB
def sizesL : List ByteArray → Nat
  | [] => 0
  | r :: l => 4 + r.size + sizesL l
theorem sizes_append (l : List ByteArray) (r : ByteArray) : sizesL (l ++ [r]) = sizesL l + (4 + r.size) := by
  induction l with
  | nil => show 4 + r.size + 0 = 0 + (4 + r.size); omega
  | cons a l ih => show 4 + a.size + sizesL (l ++ [r]) = 4 + a.size + sizesL l + (4 + r.size); rw [ih]; omega
theorem sizes_split : ∀ (k : Nat) (b : ByteArray), b.size < k → sizesL (splitS b).1 = (splitS b).2
  | 0, _, h => absurd h (Nat.not_lt_zero _)
  | k + 1, b, h => by
    cases ho : okR b with
    | false => rw [split_no ho]; rfl
    | true =>
      have hr := rest_size ho
      have hh := head_size ho
      have ih := sizes_split k (restR b) (by omega)
      obtain ⟨⟨l, e⟩, hR⟩ : ∃ R, splitS (restR b) = R := ⟨_, rfl⟩
      rw [split_yes ho]
      rw [hR] at ih ⊢
      obtain ⟨n, hn⟩ : ∃ n, rd4 b = n := ⟨_, rfl⟩
      rw [hn] at hh ⊢
      obtain ⟨hd, hhd⟩ : ∃ hd, headR b = hd := ⟨_, rfl⟩
      rw [hhd] at hh ⊢
      show 4 + hd.size + sizesL l = 4 + n + e
      have ih : sizesL l = e := ih
      omega
theorem cut_bytes (b : ByteArray) (c e : Nat) (h : c ≤ e) : b.extract 0 c ++ b.extract c e = b.extract 0 e := by
  apply ba_ext
  have hl := ba_list b
  rw [app_list, ext_list, ext_list, ext_list, List.drop_zero, Nat.sub_zero, Nat.sub_zero]
  rw [show e = c + (e - c) by omega, List.take_add, show c + (e - c) - c = e - c by omega]
end SS
namespace Go.Proofs.YthajnkcipifhcaaGreatDoor
open SS RR FF CC WW BB
attribute [local go_sem] Oper.semAt_some
section
variable (O : Nat → Prop) (w : World) (g : Nat) (s : Lg)
set_option maxRecDepth 100000 in
set_option maxHeartbeats 4000000 in
theorem cut9 (h : At9 O w g s) (hz : sizeL s ≤ 1000000) : Calls Tryz.prog 75 #[.pointer (some ⟨g, 0, none⟩)] w fun e w' => e = .returned (.int .i64 (cutA s).2) ∧ Next9 At9 O w g (cutA s).1 w' := by
  obtain ⟨v, left, h⟩ := h
  obtain ⟨c0, c1, c2, c3, c4⟩ := log_cells h.blk
  have H := Lib.hid h
  have HZ := Lib.hid hz
  clear h hz c1 c2 c3
  cases hg : s.gone with
  | true =>
    have HD := Lib.hid (show cutA s = (s, 8) from by unfold cutA; rw [if_pos hg])
    rw [hg] at c4
    clear hg
    refine (callsIn_wide (n := 3)).1 ?_
    refine callsIn_of_wp_marks Tryz.func75 rfl trivial ?_ rfl
    simp only [Tryz.ntmps75, List.size_toArray, List.length_cons, List.length_nil, Nat.reduceAdd, Nat.reduceSub, Array.replicate_succ, Array.replicate_zero, List.push_toArray, List.append_toArray, List.nil_append, List.cons_append]
    gi_wp2_with fail
    rw [HD.out]
    exact ⟨.int .i64 8, by simp [results, Tryz.results75, go_sem], rfl, H.out.next H.out.blk (Keeps.refl _ _) rfl H.out.left_ H.out.lo H.out.hi⟩
  | false =>
    have HD := Lib.hid (show cutA s = (cutL s, 0) from by unfold cutA; rw [if_neg (by rw [hg]; decide)])
    rw [hg] at c4
    clear hg
    obtain ⟨a0, cap, rfl⟩ := H.out.row.sl
    obtain ⟨bb, hR⟩ := rest_byrow H.out.row
    have HR := Lib.hid hR
    have HL := Lib.hid (split_end _ (s.safe ++ s.wait) (Nat.lt_succ_self _))
    have HSS := Lib.hid (sizes_split _ (s.safe ++ s.wait) (Nat.lt_succ_self _))
    have HZA := Lib.hid (show (s.safe ++ s.wait).size ≤ 1000000 by rw [ByteArray.size_append]; exact HZ.out)
    obtain ⟨AL, hAL⟩ : ∃ AL, s.safe ++ s.wait = AL := ⟨_, rfl⟩
    have HAL := Lib.hid hAL
    rw [hAL] at HR HL c0 HZA HSS
    have c0' := (World.cell?_of_block (a := ⟨g, 0, none⟩) (Below.heap_alloc w (.cells #[.int .i64 0] 3) g H.out.blk.lt)).trans c0
    clear hAL hR
    refine (callsIn_wide (n := 3)).1 ?_
    refine callsIn_of_wp_marks Tryz.func75 rfl trivial ?_ rfl
    simp only [Tryz.ntmps75, List.size_toArray, List.length_cons, List.length_nil, Nat.reduceAdd, Nat.reduceSub, Array.replicate_succ, Array.replicate_zero, List.push_toArray, List.append_toArray, List.nil_append, List.cons_append]
    gi_wp2_with fail
    refine ⟨trivial, ?_⟩
    refine (callsIn_wide.2 (recs_any _ _ _ _)).mono ?_
    rintro e w' ⟨rfl, rfl⟩
    gi_wp2_with fail
    have bA := Boxed.new w 3 (.int .i64 0)
    have bB := Boxed.new (w.alloc (.cells #[.int .i64 0] 3)) 99 (.slice a0 AL.size cap)
    simp only [World.size_alloc] at bB
    have HA := Lib.hid (bA.alloc (.cells #[.slice a0 AL.size cap] 99))
    have HBX := Lib.hid bB
    have HB0 := Lib.hid (((Below.refl w.heap.size w).alloc (Nat.le_refl _) (.cells #[.int .i64 0] 3)).alloc (by simp) (.cells #[.slice a0 AL.size cap] 99))
    clear bA bB
    generalize hw1 : (w.alloc (.cells #[.int .i64 0] 3)).alloc (.cells #[.slice a0 AL.size cap] 99) = w1 at HA HBX HB0 ⊢
    have HSZ := Lib.hid (show w1.heap.size = w.heap.size + 1 + 1 by rw [← hw1]; simp)
    clear hw1
    refine wpIn_rangeFunc_ownF (F := Fence.wide) (n := 3) rfl (by omega) (gf := 174) (lb := #[.pointer (some ⟨w.heap.size + 1, 0, none⟩)]) rfl trivial (enters_of Tryz.func174 (by kernel_rfl) rfl)
      (recs_stops (w0 := w) (bb := bb) AL _ HR.out (3 - 1) (by omega) w1 HB0.out _ HBX.out.cell) belowK_t (belowK_b (by rw [HSZ.out]; omega)) (Below.refl _ _) (fun _ => rfl)
      (fun pre W => (Boxed W w.heap.size 3 (.int .i64 (sizesL (pre.map Seg.bytes) : Int)) ∧ sizesL (pre.map Seg.bytes) ≤ 4004 * pre.length) ∧ Below w.heap.size w W)
      (fun _ _ _ => False)
      (OwnFrom.and (Own.from (fun s A B row hs hg hr => ⟨hs.1.kept hg (fun e' => by obtain ⟨o, ho, hc⟩ := hr _ e'.symm; rw [show A.heap[w.heap.size]? = _ from hs.1] at ho; cases ho; cases hc), hs.2⟩) _) (ownFrom_below (Nat.le_refl _) (by rw [HSZ.out]; omega)))
      (fun c => fun _ _ _ _ h _ _ => h.elim)
      ⟨⟨HA.out, Nat.le_refl _⟩, HB0.out⟩
      (fun x => { tmps := #[.pointer (some ⟨g, 0, none⟩), undef, .int .i64 0, .pointer (some ⟨w.heap.size, 0, none⟩), .slice (some ⟨bb, x.1.2.1, none⟩) x.1.1.size x.1.2.2, .pointer (some ⟨g, 0, none⟩), .pointer (some ⟨g, 0, none⟩), .pointer (some ⟨g, 4, none⟩), .bool false, .pointer (some ⟨g, 0, none⟩), .pointer (some ⟨g, 0, none⟩), .pointer (some ⟨g, 0, none⟩), .slice a0 AL.size cap, .func (.func 174) #[] #[.pointer (some ⟨w.heap.size + 1, 0, none⟩)], .slice (some ⟨bb, x.1.2.1, none⟩) x.1.1.size x.1.2.2, undef, undef, undef, undef, undef, undef, undef, undef, undef, undef, undef, undef, undef, undef, undef, undef, undef, undef, undef, undef, undef, undef, undef], defers := [] }) ?assign ?body ?done ?stop
    case assign =>
      intro l x W K hK
      unfold encSeg
      gi_wp2
      exact hK
    case body =>
      rintro l pre x W ⟨⟨hv, hsz⟩, hB⟩ hlt
      have hx := x.2
      have HN := Lib.hid (show sizesL ((pre ++ [x]).map Seg.bytes) = sizesL (pre.map Seg.bytes) + (4 + x.1.1.size) by rw [List.map_append]; exact sizes_append _ _)
      obtain ⟨Z, hZ⟩ : ∃ Z, x.1.1.size = Z := ⟨_, rfl⟩
      obtain ⟨off, hoff⟩ : ∃ off, x.1.2.1 = off := ⟨_, rfl⟩
      obtain ⟨rcap, hrcap⟩ : ∃ c, x.1.2.2 = c := ⟨_, rfl⟩
      have hz4 : Z ≤ 4000 := by rw [← hZ]; exact hx.2.2
      rw [hZ] at HN
      simp only [hZ, hoff, hrcap]
      have HPL := Lib.hid (show pre.length ≤ 1000000 by have := HL.out.2; have := HL.out.1; have := HZA.out; omega)
      obtain ⟨E, hE⟩ : ∃ E, sizesL (pre.map Seg.bytes) = E := ⟨_, rfl⟩
      rw [hE] at hv hsz HN
      obtain ⟨E', hE'⟩ : ∃ E', E + (4 + Z) = E' := ⟨_, rfl⟩
      rw [hE'] at HN
      have HLE := Lib.hid (show E' ≤ 4004 * (pre ++ [x]).length by rw [List.length_append]; show E' ≤ 4004 * (pre.length + 1); omega)
      have m1 : IntKind.i64.wrap (4 + (Z : Int)) = 4 + (Z : Int) := IntWalk.i64_in _ (by omega)
      have m2 : IntKind.i64.wrap ((E : Int) + (4 + (Z : Int))) = (E' : Int) := by rw [show (E : Int) + (4 + (Z : Int)) = (E' : Int) by omega]; exact IntWalk.i64_in _ (by have := HPL.out; omega)
      have BV := Lib.hid hv
      have HB := Lib.hid hB
      have cv := hv.cell
      have f3 := hv.frozen
      clear hv hB hlt hx hZ hoff hrcap hsz hE hE' hz4
      gi_wp2
      refine ⟨KeepsOthers.setCell _ _ _, (Below.refl _ _).setCell (p := ⟨w.heap.size, 0, none⟩) (Nat.le_refl _) _, ⟨?_, by rw [HN.out]; exact HLE.out⟩, HB.out.setCell (p := ⟨w.heap.size, 0, none⟩) (Nat.le_refl _) _⟩
      rw [HN.out]
      exact BV.out.set _
    case done =>
      rename_i Kc hKc
      rintro D ys W hD hys ⟨⟨hv, hsz⟩, hB⟩ hK
      have HE := Lib.hid (show sizesL (ys.map Seg.bytes) = (splitS AL).2 by rw [hys]; exact HSS.out)
      rw [HE.out] at hv
      obtain ⟨E, hE⟩ : ∃ E, (splitS AL).2 = E := ⟨_, rfl⟩
      have HEE := Lib.hid hE
      have hle : E ≤ AL.size := by rw [← hE]; exact HL.out.1
      have HLE := Lib.hid hle
      rw [hE] at hv
      obtain ⟨hcap, _⟩ := H.out.row.cap_le
      rw [HAL.out] at hcap
      have L1 := H.out.low hB
      have B1 := L1.blk
      rw [HAL.out] at B1
      obtain ⟨S, hS⟩ : ∃ S, s.safe.size = S := ⟨_, rfl⟩
      have HS := Lib.hid hS
      rw [hS] at B1
      obtain ⟨c, hc⟩ : ∃ c, min E S = c := ⟨_, rfl⟩
      have HC := Lib.hid hc
      have m1 : min (S : Int) (E : Int) = (c : Int) := by omega
      have e0 : (0 : Int) ≤ (E : Int) := by omega
      have e1 : (E : Int) ≤ (cap : Int) := by omega
      have HB := Lib.hid hB
      have HV := Lib.hid hv
      have HB1 := Lib.hid B1
      have HGW := Lib.hid (show g ≠ w.heap.size by have := H.out.blk.lt; omega)
      have HGD := Lib.hid (show D ≠ g by have := H.out.blk.lt; have := HSZ.out; omega)
      have HK := Lib.hid hK
      have HDD := Lib.hid hD
      clear hys hsz hE hle hv hcap L1 B1 hS hc hB hK hD c0 c0' c4
      show Kc _ _
      refine hKc _ _ (wpIn_wide.2 ?_)
      go_upto_region 7 with fail
      refine tail_abs 7 (by kernel_rfl) (by kernel_rfl) fun w2 hs2 => ?_
      have B2 := Lib.hid (HB1.out.same hs2)
      have U2 := Lib.hid (hs2.upd g)
      obtain ⟨d0, d1, _, _, _⟩ := log_cells B2.out
      have d5 := (hs2.cell ⟨w.heap.size, 0, none⟩).trans HV.out.cell
      have f0 := B2.out.frz 0
      clear hs2
      simp only [List.take_succ_cons, List.take_zero, List.drop_succ_cons, List.drop_zero]
      iterate 7 still_step
      refine wpStill_nil ?_
      go_upto_region 8 with fail
      have B3 := Lib.hid (log_set0 B2.out (.slice a0 E cap))
      have U3 := Lib.hid (U2.out.trans (Upd.set w2 g 0 (.slice a0 E cap)))
      obtain ⟨w3, hw3⟩ : ∃ w3, w2.setCell ⟨g, 0, none⟩ (.slice a0 E cap) = w3 := ⟨_, rfl⟩
      rw [hw3] at B3 U3
      rw [hw3]
      clear hw3 d0 d1 d5 f0
      refine tail_abs 7 (by kernel_rfl) (by kernel_rfl) fun w4 hs4 => ?_
      have B4 := Lib.hid (B3.out.same hs4)
      have U4 := Lib.hid (U3.out.trans (hs4.upd g))
      obtain ⟨d0, d1, _, _, _⟩ := log_cells B4.out
      have d5 := (World.cell?_of_block (a := ⟨w.heap.size, 0, none⟩) (U4.out.block w.heap.size HGW.out.symm)).trans HV.out.cell
      have f1 := B4.out.frz 1
      clear hs4
      simp only [List.take_succ_cons, List.take_zero, List.drop_succ_cons, List.drop_zero]
      iterate 7 still_step
      refine wpStill_nil ?_
      go_wp2_with fail
      have U9 := U4.out.trans (Upd.set w4 g 1 (.int .i64 (c : Int)))
      have hK9 := (U9.block D HGD.out).trans HK.out
      have hB9 := log_set1 B4.out c
      obtain ⟨W9, hW9⟩ : ∃ W9, w4.setCell ⟨g, 1, none⟩ (.int .i64 (c : Int)) = W9 := ⟨_, rfl⟩
      rw [hW9] at U9 hK9 hB9 ⊢
      refine ⟨by simp, .inl ⟨_, _, rfl, run_takeDeferred hK9, ?_⟩⟩
      refine ⟨.int .i64 0, by simp [results, Tryz.results75, go_sem], by rw [HD.out], ?_⟩
      rw [HD.out]
      have hK0 : ButR g w W9 := (Keeps.of HB.out).trans (Keeps.upd U9 fun _ h => h)
      have hK1 : ButR g w (W9.putObj D (.deferred none)) := ⟨hK0.b0.trans (belowK_b (n₀ := 0) (w := w1) (Nat.zero_le _) W9 D _ _ HDD.out hK9 rfl rfl), fun x hx hl => by
        have hne : x ≠ D := by have := HDD.out; have := HSZ.out; omega
        exact (World.putObj_heap_other hne).trans (hK0.block x hx hl)⟩
      have hce : c ≤ E := by have := HC.out; omega
      have hsz : (AL.extract 0 c).size = c := by rw [ByteArray.size_extract]; have := HLE.out; omega
      have hcut : (cutL s).safe = AL.extract 0 c ∧ (cutL s).wait = AL.extract c E ∧ (cutL s).fuse = s.fuse ∧ (cutL s).gone = s.gone := by
        refine ⟨?_, ?_, rfl, rfl⟩
        · show (s.safe ++ s.wait).extract 0 (min (splitS (s.safe ++ s.wait)).2 s.safe.size) = _
          rw [HAL.out, HEE.out, HS.out, HC.out]
        · show (s.safe ++ s.wait).extract (min (splitS (s.safe ++ s.wait)).2 s.safe.size) (splitS (s.safe ++ s.wait)).2 = _
          rw [HAL.out, HEE.out, HS.out, HC.out]
      have hOB : (Value.slice a0 E cap).ownBlock = (Value.slice a0 (s.safe ++ s.wait).size cap).ownBlock := by cases a0 <;> rfl
      have hrow := H.out.row.first E (by rw [HAL.out]; exact HLE.out)
      refine ⟨O, ⟨.slice a0 E cap, left, ?_, ?_, fun b => by rw [hOB]; exact H.out.own b, by rw [hOB]; exact H.out.ne, fun hx => H.out.left_ (by rw [← hcut.2.2.1]; exact hx), H.out.lo, H.out.hi⟩, hK1.sub fun b hb _ e => hb ((H.out.own b).2 (.inl e)), fun b hb => .inl hb⟩
      · rw [hcut.1, hcut.2.2.1, hcut.2.2.2, hsz]
        exact hB9.of_heap (World.putObj_heap_other HGD.out.symm)
      · rw [hcut.1, hcut.2.1, cut_bytes AL c E hce, ← HAL.out]
        exact hrow.of_heap hK1.b0.size fun b e => hK1.block b (fun e' => H.out.ne (by rw [← hOB, ← e']; exact e)) (hrow.lt e)
    case stop =>
      rintro D c pre W hD hpre h hK
      exact h.elim
end
end Go.Proofs.YthajnkcipifhcaaGreatDoor
end
section
open Go Go.RowKit
namespace SS
open RR FF CC WW BB
theorem strsin_own {e : TypeId} {w : World} {base : Nat} {v : Value} {l : List ByteArray} (h : w.ownsRow base e 1 v l.length (l.map Value.string)) : StrsIn (fun b => base ≤ b) w v l := by
  rcases h.2 with ⟨rfl, h0⟩ | ⟨g, cap, cur, rfl, hg, hh, hn, hcm, hsz, htk⟩
  · exact ⟨none, 0, by rw [h0], fun _ => rfl, Or.inl (List.eq_nil_of_length_eq_zero h0)⟩
  · refine ⟨_, cap, rfl, fun e => (by cases e), Or.inr ⟨g, 0, rfl, hg, (Array.getElem?_eq_some_iff.1 hh).1, fun i hi => ?_⟩⟩
    have e1 : (l.map Value.string)[i]? = some (.string (l.getD i ⟨#[]⟩)) := by simp [List.getD, List.getElem?_eq_getElem hi]
    rw [← htk, List.getElem?_take_of_lt (by omega), Array.getElem?_toList] at e1
    unfold World.cell?; rw [hh]; simpa using e1
theorem own_slS {w : World} {base n : Nat} {e : TypeId} {v : Value} {xs : List Value} (h : w.ownsRow base e 1 v n xs) : ∃ a c, v = .slice a n c := by
  rcases h.2 with ⟨h1, h2⟩ | ⟨q, cap, cur, h1, _⟩
  · exact ⟨none, 0, by rw [h1, h2]⟩
  · exact ⟨_, _, h1⟩
end SS
namespace Go.Proofs.YthajnkcipifhcaaGreatDoor
open SS RR FF CC WW BB
attribute [local go_sem] Oper.semAt_some
section
variable (O : Nat → Prop) (w : World) (g : Nat) (s : Lg)
set_option maxRecDepth 100000 in
set_option maxHeartbeats 4000000 in
theorem records9 (h : At9 O w g s) (hz : sizeL s ≤ 1000000) : Calls Tryz.prog 76 #[.pointer (some ⟨g, 0, none⟩)] w fun e w' => ∃ v, e = .returned (.tuple #[v, .int .i64 (if s.gone = true then 8 else 0)]) ∧ StrsIn (fun b => w.heap.size ≤ b) w' v (recsL s) ∧ Below w.heap.size w w' := by
  obtain ⟨v, left, h⟩ := h
  obtain ⟨c0, c1, c2, c3, c4⟩ := log_cells h.blk
  have H := Lib.hid h
  have HZ := Lib.hid hz
  obtain ⟨rc, hrc⟩ : ∃ rc : Int, (if s.gone = true then (8 : Int) else 0) = rc := ⟨_, rfl⟩
  rw [hrc]
  have HRC := Lib.hid hrc
  clear h hz c1 c2 c3 hrc
  cases hg : s.gone with
  | true =>
    have HD := Lib.hid (show recsL s = [] by unfold recsL; rw [if_pos hg])
    have hrc : rc = 8 := by rw [← HRC.out, if_pos hg]
    subst hrc
    rw [hg] at c4
    clear hg
    refine (callsIn_wide (n := 3)).1 ?_
    refine callsIn_of_wp_marks Tryz.func76 rfl trivial ?_ rfl
    simp only [Tryz.ntmps76, List.size_toArray, List.length_cons, List.length_nil, Nat.reduceAdd, Nat.reduceSub, Array.replicate_succ, Array.replicate_zero, List.push_toArray, List.append_toArray, List.nil_append, List.cons_append]
    gi_wp2_with fail
    rw [HD.out]
    exact ⟨.tuple #[.slice none 0 0, .int .i64 8], by simp [results, Tryz.results76, go_sem], .slice none 0 0, rfl, StrsIn.nil _ _, Below.refl _ _⟩
  | false =>
    have hrc : rc = 0 := by rw [← HRC.out, if_neg (by rw [hg]; decide)]
    subst hrc
    have HD := Lib.hid (show recsL s = (splitS (s.safe ++ s.wait)).1 by unfold recsL; rw [if_neg (by rw [hg]; decide)])
    rw [hg] at c4
    clear hg
    obtain ⟨a0, cap, rfl⟩ := H.out.row.sl
    obtain ⟨bb, hR⟩ := rest_byrow H.out.row
    have HR := Lib.hid hR
    obtain ⟨i0, hi, hz0, hz1, hz2⟩ := info_parts sinfo_str
    have HL := Lib.hid (split_end _ (s.safe ++ s.wait) (Nat.lt_succ_self _))
    have HZA := Lib.hid (show (s.safe ++ s.wait).size ≤ 1000000 by rw [ByteArray.size_append]; exact HZ.out)
    obtain ⟨AL, hAL⟩ : ∃ AL, s.safe ++ s.wait = AL := ⟨_, rfl⟩
    have HAL := Lib.hid hAL
    rw [hAL] at HR HL HD c0 HZA
    have c0' := (World.cell?_of_block (a := ⟨g, 0, none⟩) (Below.heap_alloc w (.cells #[.slice none 0 0] 37) g H.out.blk.lt)).trans c0
    clear hAL hR
    refine (callsIn_wide (n := 3)).1 ?_
    refine callsIn_of_wp_marks Tryz.func76 rfl trivial ?_ rfl
    simp only [Tryz.ntmps76, List.size_toArray, List.length_cons, List.length_nil, Nat.reduceAdd, Nat.reduceSub, Array.replicate_succ, Array.replicate_zero, List.push_toArray, List.append_toArray, List.nil_append, List.cons_append]
    gi_wp2_with fail
    refine ⟨trivial, ?_⟩
    refine (callsIn_wide.2 (recs_any _ _ _ _)).mono ?_
    rintro e w' ⟨rfl, rfl⟩
    gi_wp2_with fail
    have bA := Boxed.new w 37 (.slice none 0 0)
    have bB := Boxed.new (w.alloc (.cells #[.slice none 0 0] 37)) 99 (.slice a0 AL.size cap)
    simp only [World.size_alloc] at bB
    have HA := Lib.hid (bA.alloc (.cells #[.slice a0 AL.size cap] 99))
    have HBX := Lib.hid bB
    have HB0 := Lib.hid (((Below.refl w.heap.size w).alloc (Nat.le_refl _) (.cells #[.slice none 0 0] 37)).alloc (by simp) (.cells #[.slice a0 AL.size cap] 99))
    clear bA bB
    generalize hw1 : (w.alloc (.cells #[.slice none 0 0] 37)).alloc (.cells #[.slice a0 AL.size cap] 99) = w1 at HA HBX HB0 ⊢
    have HSZ := Lib.hid (show w1.heap.size = w.heap.size + 1 + 1 by rw [← hw1]; simp)
    clear hw1
    refine wpIn_rangeFunc_ownF (F := Fence.wide) (n := 3) rfl (by omega) (gf := 174) (lb := #[.pointer (some ⟨w.heap.size + 1, 0, none⟩)]) rfl trivial (enters_of Tryz.func174 (by kernel_rfl) rfl)
      (recs_stops (w0 := w) (bb := bb) AL _ HR.out (3 - 1) (by omega) w1 HB0.out _ HBX.out.cell) belowK_t (belowK_b (by rw [HSZ.out]; omega)) (Below.refl _ _) (fun _ => rfl)
      (fun pre W => (∃ v, Boxed W w.heap.size 37 v ∧ W.ownsRow w.heap.size 9 1 v pre.length (pre.map fun x => Value.string x.bytes) ∧ True) ∧ Below w.heap.size w W)
      (fun _ _ _ => False)
      (OwnFrom.and (Own.from (holdsRow_own _ _ _ _ _ (fun pre : List (Seg w bb) => pre.length) (fun pre => pre.map fun x => Value.string x.bytes) (fun _ _ => True)) _) (ownFrom_below (Nat.le_refl _) (by rw [HSZ.out]; omega)))
      (fun c => fun _ _ _ _ h _ _ => h.elim)
      ⟨⟨_, HA.out, World.ownsRow_nil _ _ _ _, trivial⟩, HB0.out⟩
      (fun x => { tmps := #[.pointer (some ⟨g, 0, none⟩), undef, .slice none 0 0, .int .i64 0, .pointer (some ⟨w.heap.size, 0, none⟩), .slice (some ⟨bb, x.1.2.1, none⟩) x.1.1.size x.1.2.2, .pointer (some ⟨g, 0, none⟩), .pointer (some ⟨g, 0, none⟩), .pointer (some ⟨g, 4, none⟩), .bool false, .pointer (some ⟨g, 0, none⟩), .pointer (some ⟨g, 0, none⟩), .pointer (some ⟨g, 0, none⟩), .slice a0 AL.size cap, .func (.func 174) #[] #[.pointer (some ⟨w.heap.size + 1, 0, none⟩)], .slice (some ⟨bb, x.1.2.1, none⟩) x.1.1.size x.1.2.2, undef, undef, undef, undef, undef, undef], defers := [] }) ?assign ?body ?done ?stop
    case assign =>
      intro l x W K hK
      unfold encSeg
      gi_wp2
      exact hK
    case body =>
      rintro l pre x W ⟨⟨v, hv, hrow, -⟩, hB⟩ hlt
      have HXB := Lib.hid (show x.bytes = x.1.1 from rfl)
      have hx := x.2
      obtain ⟨r, hr⟩ : ∃ r, x.1.1 = r := ⟨_, rfl⟩
      obtain ⟨off, hoff⟩ : ∃ off, x.1.2.1 = off := ⟨_, rfl⟩
      obtain ⟨rcap, hrcap⟩ : ∃ c, x.1.2.2 = c := ⟨_, rfl⟩
      have hbat : BAt w bb off r := by have := hx.1; rw [hr, hoff] at this; exact this
      have hcv := run_string_bat (P := Tryz.prog) (src := 99) (dst := 9) (e := 5) (cap := rcap) (hbat.of_heap (hB.block bb hx.2.1)) Tryz.underlying99 Tryz.underlying5 Tryz.underlying9
      rw [hr] at HXB
      simp only [hr, hoff, hrcap]
      have BV := Lib.hid hv
      have ROW := Lib.hid hrow
      have HB := Lib.hid hB
      have HL0 := Lib.hid (show w.heap.size ≤ W.heap.size from hB.size)
      have HPL := Lib.hid (show pre.length ≤ 1000000 by have := HL.out.2; have := HL.out.1; have := HZA.out; omega)
      obtain ⟨va, vc, rfl⟩ := own_slS hrow
      have cv := hv.cell
      have f3 := hv.frozen
      have hm1 : pre.length + 1 ≤ maxLen := by have := HPL.out; unfold maxLen; omega
      have HM1 := Lib.hid hm1
      have HM2 := Lib.hid (show (pre.length + 1) * 16 ≤ 140737488355328 by have := HPL.out; omega)
      clear hv hrow hB hlt hx hr hoff hrcap hbat hm1
      gi_wp2_with (gi_at_builtin; refine wpListIn_append_own _ rfl _ _ 37 rfl w.heap.size 9 i0 (.string ⟨#[]⟩) 1 16 Tryz.underlying37 hi hz0 hz1 hz2 rfl (by decide) _ _ _ rfl (ROW.out.alloc _) ⟨W.heap.size, 0, none⟩ 1 1 [.string r] rfl rfl (cell_one_new _ _ _) (by simp [Value.oneCell']) HM1.out HM2.out (by have := HL0.out; simp; omega) ?_; intro v' w2 hown' hgrow _; obtain ⟨g', cap', rfl⟩ := ownsRow_succ hown'; obtain ⟨hv1, hv2, hr2, hk2, hb2⟩ := BV.out.appended (by decide) ROW.out HL0.out (Nat.le_refl _) hown' hgrow; have HV1 := Lib.hid hv1; have HV2 := Lib.hid hv2; have HR2 := Lib.hid hr2; have HK2 := Lib.hid hk2; have HB2 := Lib.hid hb2; have hc1 := hv1.cell; have hf1 := hv1.frozen; clear hown' hgrow hv1 hv2 hr2 hk2 hb2)
      refine ⟨HK2.out, HB2.out, ⟨_, HV2.out, ?_, trivial⟩, HB.out.trans HB2.out⟩
      rw [List.length_append, List.map_append, List.map_cons, List.map_nil, HXB.out]; exact HR2.out
    case done =>
      rintro D ys W hD hys ⟨⟨v, hv, hrow, -⟩, hB⟩ hK
      obtain ⟨va, vc, rfl⟩ := own_slS hrow
      have c1 := hv.cell
      have HV := Lib.hid hv
      have HROW := Lib.hid hrow
      have HYS := Lib.hid hys
      clear hv hrow hys
      gi_wp2
      refine ⟨by simp, .inl ⟨_, _, rfl, run_takeDeferred hK, ?_⟩⟩
      refine ⟨.tuple #[.slice va ys.length vc, .int .i64 0], by simp [results, Tryz.results76, go_sem], _, rfl, ?_, hB.trans (belowK_b (w := w1) (by rw [HSZ.out]; omega) W D _ _ hD hK rfl rfl)⟩
      have hr9 := ownsRow_putObj HROW.out (.deferred none) hK rfl
      rw [HD.out, ← HYS.out]
      have e1 : (ys.map Seg.bytes).map Value.string = ys.map fun x => Value.string x.bytes := by rw [List.map_map]; rfl
      refine strsin_own (e := 9) ?_
      rw [List.length_map, e1]
      exact hr9
    case stop =>
      rintro D c pre W hD hpre h hK
      exact h.elim
end
end Go.Proofs.YthajnkcipifhcaaGreatDoor
end
