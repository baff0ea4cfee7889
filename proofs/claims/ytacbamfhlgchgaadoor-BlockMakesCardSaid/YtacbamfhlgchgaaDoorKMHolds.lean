/-
  What tells whether a signature holds for a node.
-/
import Derived.Test.YtacbamfhlgchgaaDoorKEText
import Derived.Test.YtacbamfhlgchgaaDoorKJBox
import Derived.BigQuiet
import Derived.WalkSmall
import Derived.Deep.QuietTactic
import Derived.Deep.RegionHeld3
open Go Go.RowKit
namespace MM
open WW BB
/-- may there be n nodes? -/
def nodesB (n : Int) : Bool := decide (1 ≤ n) && decide (n ≤ 7)
/-- are there n nodes, and is this one of them? -/
def amongB (x n : Int) : Bool := nodesB n && (decide (0 ≤ x) && decide (x < n))
/-- a tag for each, of a tag's size -/
def shapedB (ts : List ByteArray) (n : Int) : Bool := decide ((ts.length : Int) = n) && ts.all (fun t => decide (t.size = 16))
/-- the signature holds -/
def holdsB (s : ByteArray) (d n : Int) (t : ByteArray) (f : Int) (ts : List ByteArray) : Bool :=
  amongB d n && (amongB f n && (shapedB ts n && ((ts.getD d.toNat ⟨#[]⟩).toList == (tagB s f d t).toList)))
theorem among_of {x n : Int} (h : amongB x n = true) : 1 ≤ n ∧ n ≤ 7 ∧ 0 ≤ x ∧ x < n := by
  simp only [amongB, nodesB, Bool.and_eq_true, decide_eq_true_eq] at h; omega
theorem among_mk {x n : Int} (h1 : 1 ≤ n) (h2 : n ≤ 7) (h3 : 0 ≤ x) (h4 : x < n) : amongB x n = true := by
  simp only [amongB, nodesB, Bool.and_eq_true, decide_eq_true_eq]; omega
/-- the box of a signature, and the tag of one node -/
def HoldsAt (w : World) (g : Nat) (f : Int) (tv : Value) (b i : Nat) (u : ByteArray) (w' : World) : Prop :=
  w'.cell? ⟨g, 0, none⟩ = some (.int .i64 f) ∧ w'.cell? ⟨g, 1, none⟩ = some tv ∧ w'.cell? ⟨b, i, none⟩ = some (.string u) ∧ Below g w w' ∧ g ≤ w'.heap.size
section
variable {w w' w2 : World} {g b i : Nat} {f : Int} {tv : Value} {u : ByteArray} {ts : List ByteArray}
theorem keepH (h : w'.cell? ⟨g, 0, none⟩ = some (.int .i64 f) ∧ w'.cell? ⟨g, 1, none⟩ = some tv ∧ w'.cell? ⟨b, i, none⟩ = some (.string u) ∧ Below g w w' ∧ g ≤ w'.heap.size) (hb : Below w'.heap.size w' w2) :
    w2.cell? ⟨g, 0, none⟩ = some (.int .i64 f) ∧ w2.cell? ⟨g, 1, none⟩ = some tv ∧ w2.cell? ⟨b, i, none⟩ = some (.string u) ∧ Below g w w2 ∧ g ≤ w2.heap.size := by
  have hl := World.block_lt_of_cell? w' _ h.1
  have hl2 := World.block_lt_of_cell? w' _ h.2.2.1
  exact ⟨(hb.cell (p := ⟨g, 0, none⟩) hl).trans h.1, (hb.cell (p := ⟨g, 1, none⟩) hl).trans h.2.1, (hb.cell (p := ⟨b, i, none⟩) hl2).trans h.2.2.1, h.2.2.2.1.trans (hb.mono h.2.2.2.2), Nat.le_trans h.2.2.2.2 hb.size⟩
theorem strs_now (hV : StrsAt w tv ts) (hg : w.heap.size = g) (h : Below g w w') : StrsAt w' tv ts := hV.later (by rw [hg]; exact h)
end
end MM
namespace Go.Proofs.YtacbamfhlgchgaaDoor
open MM WW BB
theorem tabs_now {w w' : World} {g : Nat} (h : Tabs w) (hg : w.heap.size = g) (hb : Below g w w') : Tabs w' := h.below hb (by rw [hg]; exact Nat.le_refl _)
set_option maxRecDepth 100000 in
theorem nodes_any (n : Int) (w : World) : Calls Tryd.prog 20 #[.int .i64 n] w fun e w' => e = .returned (.bool (nodesB n)) ∧ w = w' := by
  by_cases h1 : 1 ≤ n
  · by_cases h2 : n ≤ 7
    · have e : nodesB n = true := by simp [nodesB, h1, h2]
      rw [e]; clear e
      go_enter Tryd.func20, Tryd.ntmps20
      go_wp2_with fail
      go_ret
      exact ⟨rfl, rfl⟩
    · have e : nodesB n = false := by simp [nodesB, h2]
      rw [e]; clear e
      go_enter Tryd.func20, Tryd.ntmps20
      go_wp2_with fail
      go_ret
      exact ⟨rfl, rfl⟩
  · have e : nodesB n = false := by simp [nodesB, h1]
    rw [e]; clear e
    go_enter Tryd.func20, Tryd.ntmps20
    go_wp2_with fail
    go_ret
    exact ⟨rfl, rfl⟩
set_option maxRecDepth 100000 in
theorem among_any (x n : Int) (w : World) : Calls Tryd.prog 64 #[.int .i64 x, .int .i64 n] w fun e w' => e = .returned (.bool (amongB x n)) ∧ w = w' := by
  obtain ⟨nb, hnb⟩ : ∃ nb, nodesB n = nb := ⟨_, rfl⟩
  have HN := Lib.hid hnb
  unfold amongB
  rw [hnb]
  clear hnb
  cases nb with
  | false =>
    go_enter Tryd.func64, Tryd.ntmps64
    go_wp2_with fail
    refine (nodes_any n w).mono ?_
    rintro e w' ⟨rfl, rfl⟩
    rw [HN.out]
    go_wp2_with fail
    go_ret
    exact ⟨rfl, rfl⟩
  | true =>
    by_cases h1 : 0 ≤ x
    · by_cases h2 : x < n
      · have e : (true && (decide (0 ≤ x) && decide (x < n))) = true := by simp [h1, h2]
        rw [e]; clear e
        go_enter Tryd.func64, Tryd.ntmps64
        go_wp2_with fail
        refine (nodes_any n w).mono ?_
        rintro e w' ⟨rfl, rfl⟩
        rw [HN.out]
        go_wp2_with fail
        go_ret
        exact ⟨rfl, rfl⟩
      · have e : (true && (decide (0 ≤ x) && decide (x < n))) = false := by simp [h2]
        have t2 : decide (x < n) = false := by simpa using h2
        rw [e]; clear e
        go_enter Tryd.func64, Tryd.ntmps64
        go_wp2_with fail
        refine (nodes_any n w).mono ?_
        rintro e w' ⟨rfl, rfl⟩
        rw [HN.out]
        go_wp2_with fail
        go_ret
        exact ⟨rfl, rfl⟩
    · have e : (true && (decide (0 ≤ x) && decide (x < n))) = false := by simp [h1]
      have t2 : decide (0 ≤ x) = false := by simpa using h1
      rw [e]; clear e
      go_enter Tryd.func64, Tryd.ntmps64
      go_wp2_with fail
      refine (nodes_any n w).mono ?_
      rintro e w' ⟨rfl, rfl⟩
      rw [HN.out]
      go_wp2_with fail
      go_ret
      exact ⟨rfl, rfl⟩
theorem among_is (x n : Int) (b : Bool) (h : amongB x n = b) (w : World) : Calls Tryd.prog 64 #[.int .i64 x, .int .i64 n] w fun e w' => e = .returned (.bool b) ∧ w = w' := by subst h; exact among_any x n w
theorem among_q (x n : Int) (b : Bool) (h : amongB x n = b) (w : World) : Calls Tryd.prog 64 #[.int .i64 x, .int .i64 n] w fun e w' => e = .returned (.bool b) ∧ w' = w := (among_is x n b h w).mono fun _ _ ⟨h1, h2⟩ => ⟨h1, h2.symm⟩
set_option maxRecDepth 100000 in
set_option maxHeartbeats 1000000 in
theorem shaped_any (ts : List ByteArray) (v : Value) (n : Int) (w : World) (hv : StrsAt w v ts) (hn : ts.length ≤ 9223372036854775807) :
    Calls Tryd.prog 65 #[v, .int .i64 n] w fun e w' => e = .returned (.bool (shapedB ts n)) ∧ w = w' := by
  have HV := Lib.hid hv
  have HN := Lib.hid hn
  obtain ⟨a0, cap, rfl, hx⟩ := hv
  clear hn hx
  by_cases hl : (ts.length : Int) = n
  · subst hl
    have E1 : Hid (shapedB ts (ts.length : Int) = ts.all (fun t => decide (t.size = 16))) := Lib.hid (by simp [shapedB])
    go_enter Tryd.func65, Tryd.ntmps65
    go_wp2_with fail
    go_loop [13] (fun v => ∃ i : Nat, i ≤ ts.length ∧ v = .int .i64 (i : Int) ∧ (ts.take i).all (fun t => decide (t.size = 16)) = true) (fun v => ts.length - (intOf v).toNat)
    case atStart => exact ⟨0, Nat.zero_le _, rfl, rfl⟩
    case round =>
      obtain ⟨i, hi, rfl, hall⟩ := hrel
      have HALL := Lib.hid hall
      have i0 : (0 : Int) ≤ (i : Int) := by omega
      have ib : (i : Int) ≤ 9223372036854775807 := by have := HN.out; omega
      clear hall
      by_cases hlt : i < ts.length
      · have hlt' : (i : Int) < (ts.length : Int) := by omega
        have ib1 : (i : Int) + 1 ≤ 9223372036854775807 := by have := HN.out; omega
        obtain ⟨a1, cap1, he, hv | ⟨gb, off, rfl, hbw, hcell⟩⟩ := HV.out
        · rw [hv] at hlt; simp at hlt
        injection he with e1 _ e3
        subst e1 e3
        have hcl := hcell i hlt
        have HSN : Hid ((ts.take (i + 1)).all (fun t => decide (t.size = 16)) = ((ts.take i).all (fun t => decide (t.size = 16)) && decide ((ts.getD i ⟨#[]⟩).size = 16))) := Lib.hid (by
          rw [List.take_succ_eq_append_getElem hlt, List.all_append]
          simp [List.getD, List.getElem?_eq_getElem hlt])
        obtain ⟨s, hs⟩ : ∃ s, ts.getD i ⟨#[]⟩ = s := ⟨_, rfl⟩
        rw [hs] at hcl
        have HSN' := HSN.out
        rw [hs] at HSN'
        have HSN := Lib.hid HSN'
        have HLT := Lib.hid hlt
        clear HSN' hs hlt hi hcell hbw
        by_cases h16 : s.size = 16
        · have t1 : ((s.size : Int) != 16) = false := by rw [h16]; rfl
          have H16 := Lib.hid h16
          clear h16
          go_wp2_with fail
          go_round
          case rel => exact ⟨i + 1, by have := HLT.out; omega, by go_num, by rw [HSN.out, HALL.out]; simpa using H16.out⟩
          case measure => have := HLT.out; simp [intOf]; omega
        · have t1 : ((s.size : Int) != 16) = true := by rw [bne_iff_ne]; omega
          have H16 := Lib.hid h16
          clear h16
          go_wp2_with fail
          go_ret
          refine ⟨?_, rfl⟩
          have hf : (ts.take (i + 1)).all (fun t => decide (t.size = 16)) = false := by rw [HSN.out, HALL.out]; simpa using H16.out
          have : ts.all (fun t => decide (t.size = 16)) = false := by
            rw [List.all_eq_false] at hf ⊢
            obtain ⟨x, hx, hp⟩ := hf
            exact ⟨x, List.mem_of_mem_take hx, hp⟩
          rw [E1.out, this]; rfl
      · obtain rfl : i = ts.length := by omega
        have hlt' : ¬ (ts.length : Int) < (ts.length : Int) := by omega
        clear hi hlt
        go_wp2_with fail
        go_ret
        refine ⟨?_, rfl⟩
        have := HALL.out
        rw [List.take_length] at this
        rw [E1.out, this]; rfl
  · have E1 : Hid (shapedB ts n = false) := Lib.hid (by simp [shapedB, hl])
    have t1 : ((ts.length : Int) != n) = true := by rw [bne_iff_ne]; exact hl
    clear hl
    go_enter Tryd.func65, Tryd.ntmps65
    go_wp2_with fail
    go_ret
    exact ⟨by rw [E1.out]; rfl, rfl⟩
theorem shaped_is (ts : List ByteArray) (v : Value) (n : Int) (b : Bool) (h : shapedB ts n = b) (w : World) (hv : StrsAt w v ts) (hn : ts.length ≤ 9223372036854775807) :
    Calls Tryd.prog 65 #[v, .int .i64 n] w fun e w' => e = .returned (.bool b) ∧ w = w' := by subst h; exact shaped_any ts v n w hv hn
theorem shaped_q (ts : List ByteArray) (v : Value) (n : Int) (b : Bool) (h : shapedB ts n = b) (w : World) (hv : StrsAt w v ts) (hn : ts.length ≤ 9223372036854775807) :
    Calls Tryd.prog 65 #[v, .int .i64 n] w fun e w' => e = .returned (.bool b) ∧ w' = w := (shaped_is ts v n b h w hv hn).mono fun _ _ ⟨h1, h2⟩ => ⟨h1, h2.symm⟩
theorem mtag_in (s : ByteArray) (a b : Int) (t : ByteArray) (ha : 0 ≤ a ∧ a ≤ 20) (hb : 0 ≤ b ∧ b ≤ 20) (hs : s.size ≤ 1000) (ht : t.size ≤ 100000) (w : World) (hT : Tabs w) :
    Calls Tryd.prog 66 #[.string s, .int .i64 a, .int .i64 b, .string t] w fun e w' => e = .returned (.string (tagB s a b t)) ∧ Below w.heap.size w w' := by
  have := mtag_any s a b t hs ht w hT
  rwa [endn_id a ha.1 ha.2, endn_id b hb.1 hb.2] at this
set_option maxRecDepth 100000 in
set_option maxHeartbeats 2000000 in
theorem holds_no (s : ByteArray) (d n : Int) (t : ByteArray) (f : Int) (tv : Value) (ts : List ByteArray) (w : World) (hv : StrsAt w tv ts) (hn : ts.length ≤ 9223372036854775807) (hb : (amongB d n && (amongB f n && shapedB ts n)) = false) :
    Calls Tryd.prog 45 #[.string s, .int .i64 d, .int .i64 n, .string t, .agg #[.int .i64 f, tv]] w fun e w' => e = .returned (.bool false) ∧ Below w.heap.size w w' := by
  have HV := Lib.hid hv
  have HN := Lib.hid hn
  have HB := Lib.hid hb
  obtain ⟨a0, cap, rfl, hx⟩ := hv
  have HVA := Lib.hid (HV.out.later ((Below.refl w.heap.size w).alloc (Nat.le_refl _) (.cells #[.int .i64 f, .slice a0 ts.length cap] 42)))
  clear hn hx hb
  rcases hA : amongB d n with _ | _
  · have HA := Lib.hid hA
    clear hA
    go_enter Tryd.func45, Tryd.ntmps45
    go_wp2_with fail
    have b0 : Below w.heap.size w (w.alloc (.cells #[.int .i64 f, .slice a0 ts.length cap] 42)) := (Below.refl _ _).alloc (Nat.le_refl _) _
    generalize w.alloc (.cells #[.int .i64 f, .slice a0 ts.length cap] 42) = w0 at *
    have B0 := Lib.hid b0
    clear b0
    go_quiet ((go_at_call 64; exact Calls.quiet_of_same (among_q d n false HA.out _)))
    go_wp2_with fail
    go_ret
    exact ⟨rfl, below_drewN B0.out _⟩
  · have HA := Lib.hid hA
    rcases hF : amongB f n with _ | _
    · have HF := Lib.hid hF
      clear hA hF
      go_enter Tryd.func45, Tryd.ntmps45
      go_wp2_with fail
      have c0 := cell_new w #[.int .i64 f, .slice a0 ts.length cap] 42 0 _ rfl
      have b0 : Below w.heap.size w (w.alloc (.cells #[.int .i64 f, .slice a0 ts.length cap] 42)) := (Below.refl _ _).alloc (Nat.le_refl _) _
      generalize w.alloc (.cells #[.int .i64 f, .slice a0 ts.length cap] 42) = w0 at *
      have B0 := Lib.hid b0
      clear b0
      go_quiet ((go_at_call 64; exact Calls.quiet_of_same (among_q _ _ _ (by first | exact HA.out | exact HF.out) _)))
      go_wp2_with fail
      go_ret
      exact ⟨rfl, below_drewN B0.out _⟩
    · have HF := Lib.hid hF
      have HSH : Hid (shapedB ts n = false) := Lib.hid (by have := HB.out; rw [hA, hF] at this; simpa using this)
      clear hA hF
      go_enter Tryd.func45, Tryd.ntmps45
      go_wp2_with fail
      have c0 := cell_new w #[.int .i64 f, .slice a0 ts.length cap] 42 0 _ rfl
      have c1 := cell_new w #[.int .i64 f, .slice a0 ts.length cap] 42 1 _ rfl
      have b0 : Below w.heap.size w (w.alloc (.cells #[.int .i64 f, .slice a0 ts.length cap] 42)) := (Below.refl _ _).alloc (Nat.le_refl _) _
      generalize w.alloc (.cells #[.int .i64 f, .slice a0 ts.length cap] 42) = w0 at *
      have B0 := Lib.hid b0
      clear b0
      go_quiet ((first
        | (go_at_call 64; exact Calls.quiet_of_same (among_q _ _ true (by first | exact HA.out | exact HF.out) _))
        | (go_at_call 65; exact Calls.quiet_of_same (shaped_q ts _ n false HSH.out _ (HVA.out.later (below_drewN (Below.refl _ _) _)) HN.out))))
      go_wp2_with fail
      go_ret
      exact ⟨rfl, below_drewN B0.out _⟩
set_option maxRecDepth 100000 in
set_option maxHeartbeats 2000000 in
theorem holds_yes (s : ByteArray) (d n : Int) (t : ByteArray) (f : Int) (tv : Value) (ts : List ByteArray) (w : World) (hv : StrsAt w tv ts) (hn : ts.length ≤ 9223372036854775807) (hA : amongB d n = true) (hF : amongB f n = true) (hS : shapedB ts n = true) (hs : s.size ≤ 1000) (ht : t.size ≤ 100000) (hT : Tabs w) :
    Calls Tryd.prog 45 #[.string s, .int .i64 d, .int .i64 n, .string t, .agg #[.int .i64 f, tv]] w fun e w' => e = .returned (.bool ((ts.getD d.toNat ⟨#[]⟩).toList == (tagB s f d t).toList)) ∧ Below w.heap.size w w' := by
  obtain ⟨n1, n7, t0, tn⟩ := among_of hA
  obtain ⟨_, _, f0, fn⟩ := among_of hF
  have hl : (ts.length : Int) = n := by
    simp only [shapedB, Bool.and_eq_true, decide_eq_true_eq] at hS; exact hS.1
  obtain ⟨k, rfl⟩ := Int.eq_ofNat_of_zero_le t0
  have hk : k < ts.length := by omega
  rw [Int.toNat_natCast]
  obtain ⟨u, hu⟩ : ∃ u, ts.getD k ⟨#[]⟩ = u := ⟨_, rfl⟩
  rw [hu]
  have HV := Lib.hid hv
  have HN := Lib.hid hn
  have HA := Lib.hid hA
  have HF := Lib.hid hF
  have HS := Lib.hid hS
  have HSS := Lib.hid hs
  have HTT := Lib.hid ht
  have HT := Lib.hid hT
  have HRK := Lib.hid (show (0 : Int) ≤ (k : Int) ∧ (k : Int) ≤ 20 by omega)
  have HRF := Lib.hid (show (0 : Int) ≤ f ∧ f ≤ 20 by omega)
  obtain ⟨a0, cap, rfl, hx⟩ := hv
  rcases hx with hx | ⟨gb, off, rfl, hbw, hcell⟩
  · rw [hx] at hk; simp at hk
  have hcl := hcell k hk
  rw [hu] at hcl
  have hk' : (k : Int) < (ts.length : Int) := by omega
  have hk0 : (0 : Int) ≤ (k : Int) := by omega
  have HL := Lib.hid hl
  clear hn hA hF hS hs ht hT hcell hu hl n1 n7 t0 tn f0 fn hk
  go_enter Tryd.func45, Tryd.ntmps45
  go_wp2_with fail
  have c0 := cell_new w #[.int .i64 f, .slice (some ⟨gb, off, none⟩) ts.length cap] 42 0 _ rfl
  have c1 := cell_new w #[.int .i64 f, .slice (some ⟨gb, off, none⟩) ts.length cap] 42 1 _ rfl
  have b0 : Below w.heap.size w (w.alloc (.cells #[.int .i64 f, .slice (some ⟨gb, off, none⟩) ts.length cap] 42)) := (Below.refl _ _).alloc (Nat.le_refl _) _
  have c2 := (b0.cell (p := ⟨gb, off + k, none⟩) hbw).trans hcl
  generalize w.alloc (.cells #[.int .i64 f, .slice (some ⟨gb, off, none⟩) ts.length cap] 42) = w0 at *
  have z0 := b0.size
  obtain ⟨g, hg⟩ : ∃ g, w.heap.size = g := ⟨_, rfl⟩
  rw [hg] at c0 c1 b0 z0 ⊢
  have HG := Lib.hid hg
  clear hg hbw hcl
  have hst : w0.drew.cell? ⟨g, 0, none⟩ = some (.int .i64 f) ∧ w0.drew.cell? ⟨g, 1, none⟩ = some (.slice (some ⟨gb, off, none⟩) ts.length cap) ∧ w0.drew.cell? ⟨gb, off + k, none⟩ = some (.string u) ∧ Below g w w0.drew ∧ g ≤ w0.drew.heap.size := ⟨c0, c1, c2, b0.drew, z0⟩
  go_region_held3 (fun w' => w'.cell? ⟨g, 0, none⟩ = some (.int .i64 f) ∧ w'.cell? ⟨g, 1, none⟩ = some (.slice (some ⟨gb, off, none⟩) ts.length cap) ∧ w'.cell? ⟨gb, off + k, none⟩ = some (.string u) ∧ Below g w w' ∧ g ≤ w'.heap.size)
    (first | exact hst | assumption | exact hk2)
    (first
      | (go_at_call 64; refine (among_is _ _ true (by first | exact HA.out | exact HF.out) _).mono ?_; rintro e w1 ⟨rfl, rfl⟩)
      | (go_at_call 65; refine (shaped_is ts _ _ true HS.out _ (strs_now HV.out HG.out (by assumption : _ ∧ _ ∧ _ ∧ Below g w _ ∧ _).2.2.2.1) HN.out).mono ?_; rintro e w1 ⟨rfl, rfl⟩)
      | (go_at_call 66; refine (mtag_in s f k t HRF.out HRK.out HSS.out HTT.out _ (tabs_now HT.out HG.out (by assumption : _ ∧ _ ∧ _ ∧ Below g w _ ∧ _).2.2.2.1)).mono ?_; rintro e w1 ⟨rfl, hb1⟩; have hk2 := keepH (w := w) (g := g) (b := gb) (i := off + k) (f := f) (tv := .slice (some ⟨gb, off, none⟩) ts.length cap) (u := u) (by assumption) hb1))
  go_wp2_with fail
  go_ret
  exact ⟨rfl, by rw [HG.out]; exact hk2.2.2.2.1⟩
theorem holds_any (s : ByteArray) (d n : Int) (t : ByteArray) (f : Int) (tv : Value) (ts : List ByteArray) (w : World) (hv : StrsAt w tv ts) (hn : ts.length ≤ 9223372036854775807) (hs : s.size ≤ 1000) (ht : t.size ≤ 100000) (hT : Tabs w) :
    Calls Tryd.prog 45 #[.string s, .int .i64 d, .int .i64 n, .string t, .agg #[.int .i64 f, tv]] w fun e w' => e = .returned (.bool (holdsB s d n t f ts)) ∧ Below w.heap.size w w' := by
  rcases hA : (amongB d n && (amongB f n && shapedB ts n)) with _ | _
  · have : holdsB s d n t f ts = false := by
      unfold holdsB
      rw [← Bool.and_assoc, ← Bool.and_assoc, show (amongB d n && amongB f n && shapedB ts n) = false by rw [← hA, Bool.and_assoc], Bool.false_and]
    rw [this]
    exact holds_no s d n t f tv ts w hv hn hA
  · simp only [Bool.and_eq_true] at hA
    have : holdsB s d n t f ts = ((ts.getD d.toNat ⟨#[]⟩).toList == (tagB s f d t).toList) := by unfold holdsB; rw [hA.1, hA.2.1, hA.2.2]; rfl
    rw [this]
    exact holds_yes s d n t f tv ts w hv hn hA.1 hA.2.1 hA.2.2 hs ht hT
end Go.Proofs.YtacbamfhlgchgaaDoor
