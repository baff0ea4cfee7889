/-
  The walk of what keeps, of signatures in a row, the first of each node.
-/
import Derived.Test.YtegkhhegapnkpaaDoorKECmp
import Derived.Test.YtegkhhegapnkpaaDoorKECopied
import Derived.Test.YtegkhhegapnkpaaDoorKERowK
import Derived.Test.YtegkhhegapnkpaaDoorShelf
import Derived.Deep.RegionHeld3
import Derived.StillTailTactics
section
open Go Go.RowKit
namespace CC
open BB WW Go.Sort
theorem srt_len (L : List Sg) : (srt L).length = L.length := (srt_spec L).1
theorem row_arr {w : World} {b o : Nat} {L : List Sg} (h : SgRow w b o L.length (fun i => L.getD i s0)) : SgRow w b o L.toArray.size (fun i => L.toArray[i]!) := by
  have e : L.toArray.size = L.length := by simp
  rw [e]
  exact h.congr _ fun i _ => by rw [getBang]
theorem row_list {w : World} {b o : Nat} {d : Array Sg} (h : SgRow w b o d.size (fun i => d[i]!)) : SgRow w b o d.toList.length (fun i => d.toList.getD i s0) := by
  have e : d.toList.length = d.size := by simp
  rw [e]
  exact h.congr _ fun i _ => by rw [getBang]
/-- the sort's state: the bounds, and what the row holds -/
def SortSt (L : List Sg) (b o : Nat) (w : World) (x y : Value) (wr : World) : Prop :=
  (x = .int .i64 0 ∧ y = .int .i64 20 ∧ wr = w) ∨ (L.length = 20 ∧ x = .int .i64 20 ∧ y = .int .i64 40 ∧ SgRow wr b o L.length (fun i => (srt L).getD i s0) ∧ Keep b w wr)
end CC
namespace Go.Proofs.YtegkhhegapnkpaaDoor
open CC WW BB Go.Lib Go.Sort Go.Shelf
set_option maxRecDepth 100000 in
set_option maxHeartbeats 1000000 in
theorem ins_stop (v f : Value) (a : Int) (ha : 0 ≤ a ∧ a ≤ 1000) (w : World) : Calls Tryd.prog 189 #[v, .int .i64 a, .int .i64 a, f] w fun e w' => e = .returned (.tuple #[]) ∧ w = w' := by
  have h1 : ¬ a + 1 < a := by omega
  obtain ⟨h3, h2⟩ := ha
  go_enter Tryd.func189, Tryd.ntmps189
  go_wp2_with fail
  go_loopw [8] (fun x wr => x = .int .i64 (a + 1) ∧ w = wr) (fun _ _ => 0)
  case atStart => exact ⟨rfl, rfl⟩
  case round =>
    obtain ⟨rfl, rfl⟩ := hrel
    go_wp2_with fail
    go_end0
    exact ⟨rfl, rfl⟩
theorem ins_all (L : List Sg) (b o cap : Nat) (m : Int) (hm : m = (L.length : Int)) (w : World) (hr : SgRow w b o L.length (fun i => L.getD i s0)) (hn : L.length ≤ 1000) :
    Calls Tryd.prog 189 #[.slice (some ⟨b, o, none⟩) L.length cap, .int .i64 0, .int .i64 m, .func (.func 145) #[] #[]] w fun e w' =>
      e = .returned (.tuple #[]) ∧ SgRow w' b o L.length (fun i => (srt L).getD i s0) ∧ Keep b w w' := by
  subst hm
  have hsz : L.toArray.size = L.length := by simp
  have h := AnyQ.insertionSortCmpFunc Tryd.n20 2 Tryd.isAgg98 Tryd.sizeOf98 encS (fun _ => rfl) (fun x v hv => by
      simp only [encS, tvS, List.mem_cons, List.not_mem_nil, or_false] at hv
      rcases hv with rfl | rfl <;> rfl)
    (fun x y => cmpI x.1 y.1) 145 #[] b o cap 0 L.length L.toArray w (enters_of Tryd.func145 (by kernel_rfl) rfl) (cmpLays b o L.toArray.size w) (holds_of_row (row_arr hr)) hr.lt (Nat.zero_le _) (by omega) (by omega)
  rw [hsz] at h
  refine Calls.mono h ?_
  rintro e w' ⟨rfl, n, os, rfl⟩
  refine ⟨rfl, ?_, keep_sort⟩
  have hi : (insertionSort (ltOf (fun x y : Sg => cmpI x.1 y.1)) L.toArray 0 L.length) = (srt L).toArray := by rw [ltOf_cmp]; unfold srt; rw [Array.toArray_toList]
  rw [hi]
  have h2 : (srt L).toArray.size = L.toArray.size := by rw [List.size_toArray, List.size_toArray, srt_len]
  have := row_list (row_sort (w := w) (b := b) (o := o) (m := n) (os := os) (d := L.toArray) (row_arr hr) h2)
  rw [show (srt L).toArray.toList = srt L by simp, srt_len] at this
  exact this
set_option maxRecDepth 100000 in
set_option maxHeartbeats 4000000 in
theorem stcmp_none (a0 : Option Addr) (cap : Nat) (w : World) :
    Calls Tryd.prog 171 #[.slice a0 0 cap, .int .i64 0, .func (.func 145) #[] #[]] w fun e w' => e = .returned (.tuple #[]) ∧ w = w' := by
  go_enter Tryd.func171, Tryd.ntmps171
  go_wp2_with fail
  go_loopw [7, 8] (fun x y wr => x = .int .i64 0 ∧ y = .int .i64 20 ∧ w = wr) (fun _ _ _ => 0)
  case atStart => exact ⟨rfl, rfl, rfl⟩
  case round =>
    obtain ⟨rfl, rfl, rfl⟩ := hrel
    go_wp2_with fail
    refine (ins_stop _ _ 0 (by omega) w).mono ?_
    rintro e w' ⟨rfl, rfl⟩
    go_wp2_with fail
    go_loopw [6] (fun x wr => x = .int .i64 20 ∧ w = wr) (fun _ _ => 0)
    case atStart => exact ⟨rfl, rfl⟩
    case round =>
      obtain ⟨rfl, rfl⟩ := hrel
      go_wp2_with fail
      go_end0
      exact ⟨rfl, rfl⟩
set_option maxRecDepth 100000 in
set_option maxHeartbeats 4000000 in
theorem stcmp_some (L : List Sg) (b o cap : Nat) (w : World) (hr : SgRow w b o L.length (fun i => L.getD i s0)) (hn : L.length ≤ 20) :
    Calls Tryd.prog 171 #[.slice (some ⟨b, o, none⟩) L.length cap, .int .i64 (L.length : Int), .func (.func 145) #[] #[]] w fun e w' => e = .returned (.tuple #[]) ∧ SgRow w' b o L.length (fun i => (srt L).getD i s0) ∧ Keep b w w' := by
  have HR := Lib.hid hr
  have HN := Lib.hid hn
  clear hr
  go_enter Tryd.func171, Tryd.ntmps171
  go_wp2_with fail
  go_loopw [7, 8] (fun x y wr => SortSt L b o w x y wr) (fun _ y _ => 60 - (intOf y).toNat)
  case atStart => exact Or.inl ⟨rfl, rfl, rfl⟩
  case round =>
    rcases hrel with ⟨rfl, rfl, rfl⟩ | ⟨h20, rfl, rfl, hs, hk⟩
    · by_cases h20 : L.length = 20
      · have l1 : (20 : Int) ≤ (L.length : Int) := by omega
        have HL := Lib.hid h20
        clear h20 hn
        go_wp2_with fail
        refine (ins_all L b o cap 20 (by rw [HL.out]; rfl) wr HR.out (by have := HN.out; omega)).mono ?_
        rintro e w2 ⟨rfl, hs, hk⟩
        have HS := Lib.hid hs
        have HK := Lib.hid hk
        clear hs hk
        go_wp2_with fail
        go_roundw
        case rel => exact Or.inr ⟨HL.out, rfl, rfl, HS.out, HK.out⟩
        case measure => simp [intOf]
      · have l1 : ¬ (20 : Int) ≤ (L.length : Int) := by omega
        have l2 : ¬ (20 : Int) < (L.length : Int) := by omega
        clear h20 hn
        go_wp2_with fail
        refine (ins_all L b o cap _ rfl wr HR.out (by have := HN.out; omega)).mono ?_
        rintro e w2 ⟨rfl, hs, hk⟩
        have HS := Lib.hid hs
        have HK := Lib.hid hk
        clear hs hk
        go_wp2_with fail
        go_loopw [6] (fun x wx => x = .int .i64 20 ∧ w2 = wx) (fun _ _ => 0)
        case atStart => exact ⟨rfl, rfl⟩
        case round =>
          obtain ⟨rfl, rfl⟩ := hrel
          go_wp2_with fail
          go_end0
          exact ⟨rfl, HS.out, HK.out⟩
    · have l1 : ¬ (40 : Int) ≤ (L.length : Int) := by omega
      have l2 : ¬ (20 : Int) < (L.length : Int) := by omega
      have HS := Lib.hid hs
      have HK := Lib.hid hk
      have HL := Lib.hid h20
      clear h20 hn hs hk
      go_wp2_with fail
      refine (show Calls Tryd.prog 189 #[.slice (some ⟨b, o, none⟩) L.length cap, .int .i64 20, .int .i64 (L.length : Int), .func (.func 145) #[] #[]] wr _ from by rw [HL.out]; exact ins_stop _ _ 20 (by omega) wr).mono ?_
      rintro e w' ⟨rfl, rfl⟩
      go_wp2_with fail
      go_loopw [6] (fun x wx => x = .int .i64 20 ∧ wr = wx) (fun _ _ => 0)
      case atStart => exact ⟨rfl, rfl⟩
      case round =>
        obtain ⟨rfl, rfl⟩ := hrel
        go_wp2_with fail
        go_end0
        exact ⟨rfl, HS.out, HK.out⟩
set_option maxRecDepth 100000 in
set_option maxHeartbeats 4000000 in
/-- the stable sort -/
theorem stable_any (L : List Sg) (v : Value) (B : Nat) (w : World) (hS : SgS B w v L) (hB : B ≤ w.heap.size) (hn : L.length ≤ 20) :
    Calls Tryd.prog 144 #[v, .func (.func 145) #[] #[]] w fun e w' => e = .returned (.tuple #[]) ∧ SgS B w' v (srt L) ∧ Below B w w' := by
  obtain ⟨a0, cap, rfl, hcap, h | ⟨b, o, rfl, hBb, hr⟩⟩ := hS
  · subst h
    go_enter Tryd.func144, Tryd.ntmps144
    go_wp2_with fail
    refine (stcmp_none a0 cap w).mono ?_
    rintro e w' ⟨rfl, rfl⟩
    go_wp2_with fail
    go_end0
    have e0 : srt [] = [] := List.eq_nil_of_length_eq_zero (srt_len [])
    rw [e0]
    exact ⟨rfl, ⟨a0, cap, rfl, hcap, Or.inl rfl⟩, Below.refl _ _⟩
  · have HR := Lib.hid hr
    have HN := Lib.hid hn
    have HB := Lib.hid (And.intro hB hBb)
    have HC := Lib.hid hcap
    clear hr hn hB hBb hcap
    go_enter Tryd.func144, Tryd.ntmps144
    go_wp2_with fail
    refine (stcmp_some L b o cap w HR.out HN.out).mono ?_
    rintro e w2 ⟨rfl, hs, hk⟩
    have HS := Lib.hid hs
    have HK := Lib.hid hk
    clear hs hk
    go_wp2_with fail
    go_end0
    exact ⟨rfl, ⟨_, cap, by rw [srt_len], by rw [srt_len]; exact HC.out, Or.inr ⟨b, o, rfl, HB.out.2, by rw [srt_len]; exact HS.out⟩⟩, HK.out.below HB.out.2 HB.out.1⟩
end Go.Proofs.YtegkhhegapnkpaaDoor
end
section
open Go Go.RowKit
namespace CC
open BB WW Go.Sort
theorem cmpt_small (D : List Sg) (h : D.length < 2) : cmpt D D.length = D := by
  rw [cmpt_all D D.length (Nat.le_refl _) fun j hj => ?_, List.take_length]
  have : j = 0 := by omega
  unfold kp; simp [this]
/-- the row, behind the first p -/
def comE (D : List Sg) (p j : Nat) : Sg := if j < (cmpt D p).length then (cmpt D p).getD j s0 else D.getD j s0
theorem comE_skip (D : List Sg) (p : Nat) (h : kp D p = false) : cmpt D (p + 1) = cmpt D p := by rw [cmpt_succ, h]; simp
theorem comE_put (D : List Sg) (p : Nat) (h : kp D p = true) (j : Nat) : put (comE D p) (cmpt D p).length (D.getD p s0) j = comE D (p + 1) j := by
  have e : cmpt D (p + 1) = cmpt D p ++ [D.getD p s0] := by rw [cmpt_succ, h]; simp
  show (if j = (cmpt D p).length then D.getD p s0 else comE D p j) = comE D (p + 1) j
  have e1 : comE D (p + 1) j = if j < (cmpt D p).length + 1 then (cmpt D p ++ [D.getD p s0]).getD j s0 else D.getD j s0 := by unfold comE; rw [e, List.length_append]; rfl
  have e2 : comE D p j = if j < (cmpt D p).length then (cmpt D p).getD j s0 else D.getD j s0 := rfl
  rw [e1, e2]
  by_cases h1 : j = (cmpt D p).length
  · subst h1
    rw [if_pos rfl, if_pos (by omega)]
    simp [List.getD]
  · rw [if_neg h1]
    by_cases h2 : j < (cmpt D p).length
    · rw [if_pos h2, if_pos (by omega)]
      simp [List.getD, List.getElem?_append_left h2]
    · rw [if_neg h2, if_neg (by omega)]
theorem cmpt_mono_len (D : List Sg) (p : Nat) : (cmpt D (p + 1)).length ≤ (cmpt D p).length + 1 := by
  rw [cmpt_succ, List.length_append]; split <;> simp
theorem cmpt_lt (D : List Sg) (i : Nat) (h : kp D i = false) : ∀ p, i < p → (cmpt D p).length < p
  | 0, h0 => by omega
  | p + 1, h0 => by
    by_cases e : p = i
    · subst e; rw [comE_skip D p h]; have := cmpt_le D p; omega
    · have := cmpt_lt D i h p (by omega)
      have := cmpt_mono_len D p
      omega
theorem keep_cells (b : Nat) : ∀ (vs : List Value) (o : Nat) (w : World), Keep b w (w.setCells b o vs)
  | [], _, w => Keep.refl b w
  | v :: r, o, w => (keep_set w b o v).trans (keep_cells b r (o + 1) _)
theorem run_clear_k {P : Program} (w : World) (t e ty : TypeId) (z : Value) (ht : P.underlying t = some (.slice e)) (hv : ∀ w, (zeroValue e).run P w = .ok z w) (b o n c m : Nat) (hn : 0 < n) (hm : (Builtin.zeroCells z.cells n).toList.length = m)
    (h1 : ∀ v ∈ (Builtin.zeroCells z.cells n).toList, v.oneCell' = true)
    (hc : ∀ j, j < m → (w.cell? ⟨b, o + j, none⟩).isSome = true) (hf : ∀ j, j < m → w.frozen? ⟨b, o + j, none⟩ = false) :
    (Builtin.clear_ #[t] ty #[.slice (some ⟨b, o, none⟩) n c]).run P w = .ok (.tuple #[]) (w.setCells b o (Builtin.zeroCells z.cells n).toList) := by
  have hst := run_storeCells_cells (P := P) b o (Builtin.zeroCells z.cells n).toList 0 w (by simpa [hm] using hc) (by simpa [hm] using hf) h1
  simp only [Nat.add_zero] at hst
  obtain ⟨k, rfl⟩ : ∃ k, n = k + 1 := ⟨n - 1, by omega⟩
  simp [Builtin.clear_, run_underlying ht, hv, hst]
theorem zero_sig (n : Nat) : (Builtin.zeroCells (Value.agg #[.int .i64 0, .slice none 0 0]).cells n).toList.length = n * 2 ∧ ∀ v ∈ (Builtin.zeroCells (Value.agg #[.int .i64 0, .slice none 0 0]).cells n).toList, v.oneCell' = true := by
  refine ⟨by simp [Builtin.zeroCells, Value.cells], fun v hv => ?_⟩
  simp only [Builtin.zeroCells, Value.cells, Array.toList_map, List.mem_map] at hv
  obtain ⟨i, _, rfl⟩ := hv
  have : i % 2 = 0 ∨ i % 2 = 1 := by omega
  rcases this with h | h <;> simp [h, Value.oneCell']
theorem cells_of_row {w : World} {b o n : Nat} {D : Nat → Sg} (h : SgRow w b o n D) (j : Nat) (hj : j < n * 2) : (w.cell? ⟨b, o + j, none⟩).isSome = true ∧ w.frozen? ⟨b, o + j, none⟩ = false := by
  have hq : j / 2 < n := by omega
  rcases Nat.mod_two_eq_zero_or_one j with e | e
  · have e2 : o + j = o + j / 2 * 2 := by omega
    rw [e2]; exact ⟨by rw [h.at0 _ hq]; rfl, h.f0 _ hq⟩
  · have e2 : o + j = o + j / 2 * 2 + 1 := by omega
    rw [e2]; exact ⟨by rw [h.at1 _ hq]; rfl, h.f1 _ hq⟩
theorem SgRow.cells_out {w : World} {b o n i : Nat} {D : Nat → Sg} (h : SgRow w b o n D) (hi : i ≤ n) (vs : List Value) : SgRow (w.setCells b (o + i * 2) vs) b o i D := by
  have hk := keep_cells b vs (o + i * 2) w
  refine ⟨Nat.lt_of_lt_of_le h.lt hk.size, fun j hj => ?_, fun j hj => ?_, fun j hj => ?_, fun j hj => ?_⟩
  · rw [World.cell?_setCells_out b vs _ w _ (fun _ _ => Or.inl (by show o + j * 2 < _; omega))]; exact h.at0 j (by omega)
  · rw [World.cell?_setCells_out b vs _ w _ (fun _ _ => Or.inl (by show o + j * 2 + 1 < _; omega))]; exact h.at1 j (by omega)
  · rw [World.frozen?_setCells]; exact h.f0 j (by omega)
  · rw [World.frozen?_setCells]; exact h.f1 j (by omega)
/-- the first loop's state -/
def ComA (D : List Sg) (w : World) (x : Value) (wr : World) : Prop := ∃ k : Nat, k + 1 ≤ D.length ∧ x = .int .i64 ((k : Int) + 1) ∧ (∀ j, j < k + 1 → kp D j = true) ∧ Below w.heap.size w wr
/-- the second loop's -/
def ComB (D : List Sg) (b o i : Nat) (w : World) (x y : Value) (wr : World) : Prop :=
  ∃ k c : Nat, i + k + 1 ≤ D.length ∧ y = .int .i64 ((k : Int) + 1) ∧ c = (cmpt D (i + k + 1)).length ∧ x = .int .i64 (c : Int) ∧ SgRow wr b o D.length (comE D (i + k + 1)) ∧ Keep b w wr
end CC
namespace Go.Proofs.YtegkhhegapnkpaaDoor
open CC WW BB Go.Lib Go.Sort Go.Shelf
theorem make2_is (f g : Int) (x y : Value) (r : Bool) (hr : (f == g) = r) (W : World) : Calls Tryd.prog 148 #[.agg #[.int .i64 f, x], .agg #[.int .i64 g, y]] W fun e w' => e = .returned (.bool r) ∧ Below W.heap.size W w' := hr ▸ make2_any f g x y W
set_option maxRecDepth 100000 in
set_option maxHeartbeats 8000000 in
theorem compact_big (D : List Sg) (b o cap B : Nat) (w : World) (hr : SgRow w b o D.length (fun i => D.getD i s0)) (hBb : B ≤ b) (hB : B ≤ w.heap.size) (hn : D.length ≤ 20) (h2 : 2 ≤ D.length) (hcap : D.length ≤ cap) :
    Calls Tryd.prog 147 #[.slice (some ⟨b, o, none⟩) D.length cap, .func (.func 148) #[] #[]] w fun e w' => ∃ v', e = .returned v' ∧ SgS B w' v' (cmpt D D.length) ∧ Below B w w' := by
  have HR := Lib.hid hr
  have HN := Lib.hid hn
  have HB := Lib.hid (And.intro hB hBb)
  have HC := Lib.hid hcap
  have H2 := Lib.hid h2
  have t0 : ¬ (D.length : Int) < 2 := by omega
  clear hr hn hB hBb hcap h2
  go_enter Tryd.func147, Tryd.ntmps147
  go_wp2_with fail
  go_loopw [5] (fun x wr => ComA D w x wr) (fun x _ => D.length - (intOf x).toNat)
  case atStart => exact ⟨0, by have := H2.out; omega, rfl, fun j hj => by unfold kp; simp; omega, Below.refl _ _⟩
  case round =>
    obtain ⟨k, hk, rfl, hall, hb⟩ := hrel
    have HALL := Lib.hid hall
    have HBL := Lib.hid hb
    have k0 : (0 : Int) ≤ (k : Int) := by omega
    have kb : (k : Int) ≤ 20 := by have := HN.out; omega
    clear hall hb
    by_cases hlt : k + 1 < D.length
    · have hlt' : (k : Int) + 1 < (D.length : Int) := by omega
      have hlt2 : (k : Int) < (D.length : Int) := by omega
      have hrw := HR.out.below HBL.out
      have c0 := hrw.at0 (k + 1) hlt
      have c1 := hrw.at1 (k + 1) hlt
      have d0 := hrw.at0 k (by omega)
      have d1 := hrw.at1 k (by omega)
      obtain ⟨x, hx⟩ : ∃ x, D.getD (k + 1) s0 = x := ⟨_, rfl⟩
      obtain ⟨y, hy⟩ : ∃ y, D.getD k s0 = y := ⟨_, rfl⟩
      rw [hx] at c0 c1
      rw [hy] at d0 d1
      have HKP := Lib.hid (show kp D (k + 1) = !(x.1 == y.1) by unfold kp; rw [hx, Nat.add_sub_cancel, hy]; by_cases e : x.1 = y.1 <;> simp [e])
      have HLT := Lib.hid hlt
      have k1 : (0 : Int) ≤ (k : Int) + 1 := by omega
      have mw : IntKind.i64.wrap ((k : Int) + 1 - 1) = (k : Int) := by rw [IntKind.wrap_i64]; omega
      have mw2 : IntKind.i64.wrap (k : Int) = (k : Int) := by rw [IntKind.wrap_i64]; omega
      have mt : ((k : Int) + 1).toNat = k + 1 := by omega
      clear hx hy hrw hlt hk
      go_wp2_with fail
      rcases hfg : (x.1 == y.1) with _ | _
      all_goals
        have HFG := Lib.hid hfg
        clear hfg
        go_still_tail 10, (by kernel_rfl)
        change wpList _ _ _ _ _ wr.drew
        clear c0 c1 d0 d1 mw mw2 mt
        go_wp2_with fail
        refine (make2_is x.1 y.1 _ _ _ HFG.out _).mono ?_
        rintro e w5 ⟨rfl, hb5⟩
        have HB5 := Lib.hid (HBL.out.trans (((Below.refl wr.heap.size wr).drew.trans hb5).mono HBL.out.size))
        clear hb5
      · have HK := Lib.hid (show kp D (k + 1) = true by rw [HKP.out, HFG.out]; rfl)
        go_wp2_with fail
        go_roundw
        case rel => exact ⟨k + 1, by have := HLT.out; omega, by go_num, fun j hj => if h : j = k + 1 then h ▸ HK.out else HALL.out j (by omega), HB5.out⟩
        case measure => have := HLT.out; simp [intOf]; omega
      · have HK := Lib.hid (show kp D (k + 1) = false by rw [HKP.out, HFG.out]; rfl)
        have hsl : k + 1 < cap := by have := HC.out; have := HLT.out; omega
        have hs1 : ((k + 1 : Nat) : Int) = (k : Int) + 1 := by omega
        go_wp2_with fail
        have HTK := Lib.hid (show cmpt D (k + 1) = D.take (k + 1) from cmpt_all D (k + 1) (by have := HLT.out; omega) HALL.out)
        have HC1 := Lib.hid (show (cmpt D (k + 1 + 0 + 1)).length = k + 1 by rw [show k + 1 + 0 + 1 = (k + 1) + 1 by omega, comE_skip D (k + 1) HK.out, HTK.out, List.length_take]; have := HLT.out; omega)
        have HE1 := Lib.hid (show ∀ j, D.getD j s0 = comE D (k + 1 + 0 + 1) j from fun j => by
          unfold comE
          rw [HC1.out, show k + 1 + 0 + 1 = (k + 1) + 1 by omega, comE_skip D (k + 1) HK.out, HTK.out]
          split
          · rename_i h; simp [List.getD, List.getElem?_take_of_lt h]
          · rfl)
        obtain ⟨m, hm⟩ : ∃ m, D.length - (k + 1) = m := ⟨_, rfl⟩
        obtain ⟨cp, hcp⟩ : ∃ cp, cap - (k + 1) = cp := ⟨_, rfl⟩
        rw [hm, hcp]
        have HMM := Lib.hid (show k + 1 + m = D.length by have := HLT.out; omega)
        have HM1 := Lib.hid (show m ≤ cp by have := HC.out; omega)
        clear hm hcp hsl hs1 k1 hlt' hlt2 HKP HFG
        go_loopw [5, 7] (fun x y wx => ComB D b o (k + 1) w x y wx) (fun _ y _ => 30 - (intOf y).toNat)
        case atStart => exact ⟨0, k + 1, by have := HLT.out; omega, rfl, HC1.out.symm, by go_num, (HR.out.below HB5.out).congr _ fun i _ => HE1.out i, keep_of_below HB5.out (Nat.le_refl _) b⟩
        case round =>
          obtain ⟨kk, c, hkk, rfl, hc, rfl, hrow, hkeep⟩ := hrel
          have HRW := Lib.hid hrow
          have HKE := Lib.hid hkeep
          have HCC := Lib.hid hc
          have HCL := Lib.hid (show c < k + 1 + kk + 1 by rw [hc]; exact cmpt_lt D (k + 1) HK.out _ (by omega))
          have kk0 : (0 : Int) ≤ (kk : Int) := by omega
          have kk1 : (0 : Int) ≤ (kk : Int) + 1 := by omega
          have kkb : (kk : Int) ≤ 20 := by have := HN.out; omega
          have c0' : (0 : Int) ≤ (c : Int) := by omega
          have cb' : (c : Int) ≤ 40 := by have := HCL.out; have := HN.out; omega
          clear hrow hkeep hc
          by_cases hlt : kk + 1 < m
          · have l1 : (kk : Int) + 1 < (m : Int) := by omega
            have l2 : (kk : Int) < (m : Int) := by omega
            have HP := Lib.hid (show k + 1 + kk + 1 < D.length by have := HMM.out; omega)
            have a0 := HRW.out.at0 (k + 1 + kk + 1) HP.out
            have a1 := HRW.out.at1 (k + 1 + kk + 1) HP.out
            have b0 := HRW.out.at0 (k + 1 + kk) (by have := HP.out; omega)
            have b1 := HRW.out.at1 (k + 1 + kk) (by have := HP.out; omega)
            have e1 : comE D (k + 1 + kk + 1) (k + 1 + kk + 1) = D.getD (k + 1 + kk + 1) s0 := by unfold comE; rw [if_neg (by rw [← HCC.out]; have := HCL.out; omega)]
            have e2 : comE D (k + 1 + kk + 1) (k + 1 + kk) = D.getD (k + 1 + kk) s0 := by unfold comE; rw [if_neg (by rw [← HCC.out]; have := HCL.out; omega)]
            obtain ⟨x, hx⟩ : ∃ x, D.getD (k + 1 + kk + 1) s0 = x := ⟨_, rfl⟩
            obtain ⟨y, hy⟩ : ∃ y, D.getD (k + 1 + kk) s0 = y := ⟨_, rfl⟩
            rw [e1, hx, show o + (k + 1 + kk + 1) * 2 = o + (k + 1) * 2 + (kk + 1) * 2 by omega] at a0 a1
            rw [e2, hy, show o + (k + 1 + kk) * 2 = o + (k + 1) * 2 + kk * 2 by omega] at b0 b1
            have HKP := Lib.hid (show kp D (k + 1 + kk + 1) = !(x.1 == y.1) by unfold kp; rw [hx, Nat.add_sub_cancel, hy]; by_cases e : x.1 = y.1 <;> simp [e])
            have HX := Lib.hid hx
            have mw : IntKind.i64.wrap ((kk : Int) + 1 - 1) = (kk : Int) := by rw [IntKind.wrap_i64]; omega
            have mw2 : IntKind.i64.wrap (kk : Int) = (kk : Int) := by rw [IntKind.wrap_i64]; omega
            have mt : ((kk : Int) + 1).toNat = kk + 1 := by omega
            clear hx hy hlt hkk e1 e2
            go_wp2_with fail
            rcases hfg : (x.1 == y.1) with _ | _
            all_goals
              have HFG := Lib.hid hfg
              clear hfg
              go_still_tail 10, (by kernel_rfl)
              change wpList _ _ _ _ _ wr.drew
              clear a0 a1 b0 b1 mw mw2
              go_wp2_with fail
              refine (make2_is x.1 y.1 _ _ _ HFG.out _).mono ?_
              rintro e w6 ⟨rfl, hb6⟩
              have HB6 := Lib.hid ((Below.refl wr.heap.size wr).drew.trans hb6)
              clear hb6
            · have HKT := Lib.hid (show kp D (k + 1 + kk + 1) = true by rw [HKP.out, HFG.out]; rfl)
              have HR6 := Lib.hid (HRW.out.below HB6.out)
              have l3 : (c : Int) < (D.length : Int) := by have := HCL.out; have := HP.out; omega
              have a0 := HR6.out.at0 (k + 1 + kk + 1) HP.out
              have a1 := HR6.out.at1 (k + 1 + kk + 1) HP.out
              have e1 : comE D (k + 1 + kk + 1) (k + 1 + kk + 1) = x := by unfold comE; rw [if_neg (by rw [← HCC.out]; have := HCL.out; omega), HX.out]
              rw [e1, show o + (k + 1 + kk + 1) * 2 = o + (k + 1) * 2 + (kk + 1) * 2 by omega] at a0 a1
              have c0 := HR6.out.at0 c (by have := HCL.out; have := HP.out; omega)
              have c1 := HR6.out.at1 c (by have := HCL.out; have := HP.out; omega)
              have f0 := HR6.out.f0 c (by have := HCL.out; have := HP.out; omega)
              have f1 := HR6.out.f1 c (by have := HCL.out; have := HP.out; omega)
              have HNW := Lib.hid (show SgRow ((w6.setCell ⟨b, o + c * 2, none⟩ (.int .i64 x.1)).setCell ⟨b, o + c * 2 + 1, none⟩ (.slice x.2.1.1 x.2.2.length x.2.1.2)) b o D.length (comE D (k + 1 + kk + 1 + 1)) from
                (HR6.out.set c (by have := HCL.out; have := HP.out; omega) x).congr _ fun j _ => by rw [HCC.out, ← HX.out]; exact comE_put D (k + 1 + kk + 1) HKT.out j)
              replace a1 : w6.cell? ⟨b, o + (k + 1) * 2 + (kk + 1) * 2 + 1, none⟩ = some (.slice x.2.1.1 x.2.2.length x.2.1.2) := a1
              clear e1
              go_wp2_with fail
              go_roundw
              case rel => exact ⟨kk + 1, c + 1, by have := HP.out; omega, by go_num, by
                  rw [show k + 1 + (kk + 1) + 1 = k + 1 + kk + 1 + 1 by omega, cmpt_succ, HKT.out, if_pos rfl, List.length_append, ← HCC.out]; rfl, by go_num, by
                  rw [show k + 1 + (kk + 1) + 1 = k + 1 + kk + 1 + 1 by omega]; exact HNW.out, (HKE.out.trans (keep_of_below HB6.out (Nat.le_refl _) b)).trans ((keep_set _ _ _ _).trans (keep_set _ _ _ _))⟩
              case measure => have := HP.out; have := HN.out; simp [intOf]; omega
            · have HKT := Lib.hid (show kp D (k + 1 + kk + 1) = false by rw [HKP.out, HFG.out]; rfl)
              go_wp2_with fail
              go_roundw
              case rel => exact ⟨kk + 1, c, by have := HP.out; omega, by go_num, by rw [show k + 1 + (kk + 1) + 1 = k + 1 + kk + 1 + 1 by omega, comE_skip D _ HKT.out]; exact HCC.out, rfl, (HRW.out.below HB6.out).congr _ fun j _ => by unfold comE; rw [show k + 1 + (kk + 1) + 1 = k + 1 + kk + 1 + 1 by omega, comE_skip D _ HKT.out], HKE.out.trans (keep_of_below HB6.out (Nat.le_refl _) b)⟩
              case measure => have := HP.out; have := HN.out; simp [intOf]; omega
          · have HPE := Lib.hid (show k + 1 + kk + 1 = D.length by have := HMM.out; omega)
            have l1 : ¬ (kk : Int) + 1 < (m : Int) := by omega
            have HCD := Lib.hid (show c < D.length by have := HCL.out; have := HPE.out; omega)
            have l2 : c < cap := by have := HCD.out; have := HC.out; omega
            have l3 : (c : Int) ≤ (D.length : Int) := by have := HCD.out; omega
            have l4 : (c : Int) ≤ (cap : Int) := by omega
            have hz := zero_sig (D.length - c)
            have hclr : ∀ ty, (Builtin.clear_ #[22] ty #[.slice (some ⟨b, o + c * 2, none⟩) (D.length - c) (cap - c)]).run Tryd.prog wr = .ok (.tuple #[]) (wr.setCells b (o + c * 2) (Builtin.zeroCells (Value.agg #[.int .i64 0, .slice none 0 0]).cells (D.length - c)).toList) := fun ty =>
              run_clear_k wr 22 98 ty _ und_sigs (fun _ => rfl) b (o + c * 2) (D.length - c) (cap - c) ((D.length - c) * 2) (by have := HCD.out; omega) hz.1 hz.2
                (fun j hj => by have := (cells_of_row HRW.out (c * 2 + j) (by have := HCD.out; omega)).1; rw [show o + (c * 2 + j) = o + c * 2 + j by omega] at this; exact this)
                (fun j hj => by have := (cells_of_row HRW.out (c * 2 + j) (by have := HCD.out; omega)).2; rw [show o + (c * 2 + j) = o + c * 2 + j by omega] at this; exact this)
            have HOUT := Lib.hid (show SgRow (wr.setCells b (o + c * 2) (Builtin.zeroCells (Value.agg #[.int .i64 0, .slice none 0 0]).cells (D.length - c)).toList) b o c (fun i => (cmpt D D.length).getD i s0) from
              (HRW.out.cells_out (i := c) (Nat.le_of_lt HCD.out) _).congr _ fun j hj => by unfold comE; rw [HPE.out]; rw [if_pos (by rw [← HPE.out, ← HCC.out]; exact hj)])
            have HKB := Lib.hid (HKE.out.trans (keep_cells b (Builtin.zeroCells (Value.agg #[.int .i64 0, .slice none 0 0]).cells (D.length - c)).toList (o + c * 2) wr))
            clear hz hkk hlt
            go_wp2_with fail
            go_ret
            have hlen : (cmpt D D.length).length = c := by rw [← HPE.out]; exact HCC.out.symm
            exact ⟨_, rfl, ⟨some ⟨b, o, none⟩, cap, by rw [hlen]; rfl, by rw [hlen]; have := HCD.out; have := HC.out; omega, Or.inr ⟨b, o, rfl, HB.out.2, by rw [hlen]; exact HOUT.out⟩⟩, HKB.out.below HB.out.2 HB.out.1⟩
    · have HKE := Lib.hid (show k + 1 = D.length by omega)
      have HALL := Lib.hid (show cmpt D D.length = D by rw [cmpt_all D D.length (Nat.le_refl _) fun j hj => HALL.out j (by have := HKE.out; omega), List.take_length])
      have l1 : ¬ (k : Int) + 1 < (D.length : Int) := by omega
      clear hlt hk
      go_wp2_with fail
      go_ret
      rw [HALL.out]
      exact ⟨_, rfl, ⟨some ⟨b, o, none⟩, cap, rfl, HC.out, Or.inr ⟨b, o, rfl, HB.out.2, HR.out.below HBL.out⟩⟩, HBL.out.mono HB.out.1⟩
set_option maxRecDepth 100000 in
set_option maxHeartbeats 4000000 in
theorem compact_any (D : List Sg) (v : Value) (B : Nat) (w : World) (hS : SgS B w v D) (hB : B ≤ w.heap.size) (hn : D.length ≤ 20) :
    Calls Tryd.prog 147 #[v, .func (.func 148) #[] #[]] w fun e w' => ∃ v', e = .returned v' ∧ SgS B w' v' (cmpt D D.length) ∧ Below B w w' := by
  by_cases h2 : D.length < 2
  · have HS := Lib.hid hS
    obtain ⟨a0, cap, rfl, _, _⟩ := hS
    have t1 : (D.length : Int) < 2 := by omega
    have HE := Lib.hid (cmpt_small D h2)
    clear hn h2
    go_enter Tryd.func147, Tryd.ntmps147
    go_wp2_with fail
    go_ret
    rw [HE.out]
    exact ⟨_, rfl, HS.out, Below.refl _ _⟩
  · obtain ⟨a0, cap, rfl, hc, h | ⟨b, o, rfl, hb, hr⟩⟩ := hS
    · subst h; simp at h2
    · exact compact_big D b o cap B w hr hb hB hn (by omega) hc
end Go.Proofs.YtegkhhegapnkpaaDoor
end
