/-
  The walk of the code's Holds.
-/
import Derived.Test.YtigoaokpodggcaaDoorKMKey
import Derived.Test.YtigoaokpodggcaaDoorKLOpen
import Derived.BigQuiet
import Derived.WalkSmall
import Derived.Deep.QuietTactic
import Derived.Deep.RegionHeld3
import Derived.Test.YtigoaokpodggcaaDoorKWList
import Derived.Test.YtigoaokpodggcaaDoorKRefMix
section
open Go Go.RowKit
namespace CC
open MM WW BB
/-- a vote's text -/
def textB (v : Int) (k : ByteArray) : ByteArray := ⟨#[86]⟩ ++ num v ++ k
theorem textB_size (v : Int) (k : ByteArray) : (textB v k).size = 5 + k.size := by
  have h1 : (⟨#[86]⟩ : ByteArray).size = 1 := rfl
  simp only [textB, ByteArray.size_append, num_size, h1]
/-- the first block's digest -/
def firstD : ByteArray := dg ⟨#[102, 105, 114, 115, 116]⟩
theorem firstD_size : firstD.size = 32 := dsize _
/-- the cells of a certificate -/
def cC (v : Value) (k : ByteArray) (s : Value) : Nat → Value := fun i => if i = 0 then v else if i = 1 then .string k else s
theorem cC_row (v : Value) (k : ByteArray) (s : Value) : #[v, .string k, s] = row 3 (cC v k s) := by rfl
end CC
namespace Go.Proofs.YtigoaokpodggcaaDoor
open CC MM WW BB
set_option maxRecDepth 100000 in
set_option maxHeartbeats 1000000 in
theorem text5_any (v : Int) (k : ByteArray) (hk : k.size ≤ 1000000) (w : World) :
    Calls Tryd.prog 24 #[.int .i64 v, .string k] w fun e w' => e = .returned (.string (textB v k)) ∧ Below w.heap.size w w' := by
  have h1 : ¬ 9223372036854775807 < (⟨#[86]⟩ : ByteArray).size + (num v).size := by rw [num_size, show (⟨#[86]⟩ : ByteArray).size = 1 from rfl]; omega
  have h2 : ¬ 9223372036854775807 < ((⟨#[86]⟩ : ByteArray) ++ num v).size + k.size := by rw [ByteArray.size_append, num_size, show (⟨#[86]⟩ : ByteArray).size = 1 from rfl]; omega
  clear hk
  go_enter Tryd.func24, Tryd.ntmps24
  go_wp2_with fail
  refine (number_any _ _).mono ?_
  rintro e w1 ⟨rfl, hb1⟩
  go_wp2_with fail
  go_ret
  exact ⟨rfl, hb1⟩
set_option maxRecDepth 100000 in
set_option maxHeartbeats 1000000 in
theorem rtext5_any (v : Int) (k : ByteArray) (hk : k.size ≤ 1000000) (w : World) :
    Calls Tryd.prog 25 #[.int .i64 v, .string k] w fun e w' => e = .returned (.string (textB v k)) ∧ Below w.heap.size w w' := by
  have h1 : ¬ 9223372036854775807 < (⟨#[86]⟩ : ByteArray).size + (num v).size := by rw [num_size, show (⟨#[86]⟩ : ByteArray).size = 1 from rfl]; omega
  have h2 : ¬ 9223372036854775807 < ((⟨#[86]⟩ : ByteArray) ++ num v).size + k.size := by rw [ByteArray.size_append, num_size, show (⟨#[86]⟩ : ByteArray).size = 1 from rfl]; omega
  clear hk
  go_enter Tryd.func25, Tryd.ntmps25
  go_wp2_with fail
  refine (rnumber_any _ _).mono ?_
  rintro e w1 ⟨rfl, hb1⟩
  go_wp2_with fail
  go_ret
  exact ⟨rfl, hb1⟩
set_option maxRecDepth 100000 in
set_option maxHeartbeats 1000000 in
theorem rfirst_any (w : World) : Calls Tryd.prog 23 #[] w fun e w' => e = .returned (.string firstD) ∧ Below w.heap.size w w' := by
  go_enter Tryd.func23, Tryd.ntmps23
  go_wp2_with fail
  refine (rsum_dg _ (by decide) _).mono ?_
  rintro e w1 ⟨rfl, hb1⟩
  go_wp2_with fail
  go_ret
  exact ⟨rfl, hb1⟩
set_option maxRecDepth 100000 in
set_option maxHeartbeats 1000000 in
theorem first_any (w : World) (hT : Tabs w) : Calls Tryd.prog 22 #[] w fun e w' => e = .returned (.agg #[.int .i64 0, .string firstD, .slice none 0 0]) ∧ Below w.heap.size w w' := by
  have HT := Lib.hid hT
  clear hT
  go_enter Tryd.func22, Tryd.ntmps22
  go_wp2_with fail
  obtain ⟨a, ha⟩ : ∃ a, w.heap.size = a := ⟨_, rfl⟩
  have k0 : Blk (w.alloc (.cells #[.int .i64 0, .string ⟨#[]⟩, .slice none 0 0] 24)) a 3 (cC (.int .i64 0) ⟨#[]⟩ (.slice none 0 0)) := Blk.new' ha.symm (cC_row _ _ _)
  have b0 := (Below.refl w.heap.size w).alloc (Nat.le_refl _) (.cells #[.int .i64 0, .string ⟨#[]⟩, .slice none 0 0] 24)
  have HT1 := Lib.hid (HT.out.below b0 (Nat.le_refl _))
  rw [ha] at b0 ⊢
  have HAA := Lib.hid ha
  clear ha
  generalize w.alloc (.cells #[.int .i64 0, .string ⟨#[]⟩, .slice none 0 0] 24) = w1 at *
  refine (sum_any ⟨#[102, 105, 114, 115, 116]⟩ (by decide) w1 HT1.out).mono ?_
  rintro e w2 ⟨rfl, hb2⟩
  have B2 := Lib.hid (b0.trans (hb2.mono (Nat.le_of_lt k0.lt)))
  have K2 := Lib.hid (k0.below hb2 k0.lt)
  clear b0 k0 hb2
  have c0 : w2.cell? ⟨a, 0, none⟩ = some (.int .i64 0) := K2.out.get 0 (by omega)
  have g0 := K2.out.frz 0
  have c1 : w2.cell? ⟨a, 1, none⟩ = some (.string ⟨#[]⟩) := K2.out.get 1 (by omega)
  have g1 := K2.out.frz 1
  have c2 : w2.cell? ⟨a, 2, none⟩ = some (.slice none 0 0) := K2.out.get 2 (by omega)
  have g2 := K2.out.frz 2
  go_wp2_with fail
  have k3 := ((K2.out.set 0 (.int .i64 0)).set 1 (.string firstD)).set 2 (.slice none 0 0)
  have q0 := k3.get 0 (by omega)
  have q1 := k3.get 1 (by omega)
  have q2 := k3.get 2 (by omega)
  rw [show put (put (put (cC (.int .i64 0) ⟨#[]⟩ (.slice none 0 0)) 0 (.int .i64 0)) 1 (.string firstD)) 2 (.slice none 0 0) 0 = .int .i64 0 from rfl] at q0
  rw [show put (put (put (cC (.int .i64 0) ⟨#[]⟩ (.slice none 0 0)) 0 (.int .i64 0)) 1 (.string firstD)) 2 (.slice none 0 0) 1 = .string firstD from rfl] at q1
  rw [show put (put (put (cC (.int .i64 0) ⟨#[]⟩ (.slice none 0 0)) 0 (.int .i64 0)) 1 (.string firstD)) 2 (.slice none 0 0) 2 = .slice none 0 0 from rfl] at q2
  unfold firstD at q0 q1 q2 ⊢
  refine bodyPost_ret (v := .agg #[.int .i64 0, .string (dg ⟨#[102, 105, 114, 115, 116]⟩), .slice none 0 0]) (by simp [results, Tryd.results22, go_sem, q0, q1, q2]) rfl ⟨rfl, ?_⟩
  rw [HAA.out]
  exact B2.out.trans ((((Upd.set _ _ _ _).trans (Upd.set _ _ _ _)).trans (Upd.set _ _ _ _)).below (Nat.le_refl _))
end Go.Proofs.YtigoaokpodggcaaDoor
end
section
open Go Go.RowKit
namespace MM
open WW BB
/-- may there be n nodes? -/
def nodesB (n : Int) : Bool := decide (1 ≤ n) && decide (n ≤ 7)
/-- are there n nodes, and is this one of them? -/
def amongB (x n : Int) : Bool := nodesB n && (decide (0 ≤ x) && decide (x < n))
/-- a tag for each, of a tag's size -/
def shapedB (ts : List ByteArray) (n : Int) : Bool := decide ((ts.length : Int) = n) && ts.all (fun t => decide (t.size = 16))
/-- the signature holds -/
def holdsB (s : ByteArray) (d n : Int) (t : ByteArray) (f : Int) (ts : List ByteArray) : Bool :=
  amongB d n && (amongB f n && (shapedB ts n && ((ts.getD d.toNat ⟨#[]⟩).toList == (tagB s f d t).toList)))
theorem among_of {x n : Int} (h : amongB x n = true) : 1 ≤ n ∧ n ≤ 7 ∧ 0 ≤ x ∧ x < n := by
  simp only [amongB, nodesB, Bool.and_eq_true, decide_eq_true_eq] at h; omega
theorem among_mk {x n : Int} (h1 : 1 ≤ n) (h2 : n ≤ 7) (h3 : 0 ≤ x) (h4 : x < n) : amongB x n = true := by
  simp only [amongB, nodesB, Bool.and_eq_true, decide_eq_true_eq]; omega
/-- the box of a signature, and the tag of one node -/
def HoldsAt (w : World) (g : Nat) (f : Int) (tv : Value) (b i : Nat) (u : ByteArray) (w' : World) : Prop :=
  w'.cell? ⟨g, 0, none⟩ = some (.int .i64 f) ∧ w'.cell? ⟨g, 1, none⟩ = some tv ∧ w'.cell? ⟨b, i, none⟩ = some (.string u) ∧ Below g w w' ∧ g ≤ w'.heap.size
section
variable {w w' w2 : World} {g b i : Nat} {f : Int} {tv : Value} {u : ByteArray} {ts : List ByteArray}
theorem keepH (h : w'.cell? ⟨g, 0, none⟩ = some (.int .i64 f) ∧ w'.cell? ⟨g, 1, none⟩ = some tv ∧ w'.cell? ⟨b, i, none⟩ = some (.string u) ∧ Below g w w' ∧ g ≤ w'.heap.size) (hb : Below w'.heap.size w' w2) :
    w2.cell? ⟨g, 0, none⟩ = some (.int .i64 f) ∧ w2.cell? ⟨g, 1, none⟩ = some tv ∧ w2.cell? ⟨b, i, none⟩ = some (.string u) ∧ Below g w w2 ∧ g ≤ w2.heap.size := by
  have hl := World.block_lt_of_cell? w' _ h.1
  have hl2 := World.block_lt_of_cell? w' _ h.2.2.1
  exact ⟨(hb.cell (p := ⟨g, 0, none⟩) hl).trans h.1, (hb.cell (p := ⟨g, 1, none⟩) hl).trans h.2.1, (hb.cell (p := ⟨b, i, none⟩) hl2).trans h.2.2.1, h.2.2.2.1.trans (hb.mono h.2.2.2.2), Nat.le_trans h.2.2.2.2 hb.size⟩
theorem strs_now (hV : StrsAt w tv ts) (hg : w.heap.size = g) (h : Below g w w') : StrsAt w' tv ts := hV.later (by rw [hg]; exact h)
end
end MM
namespace Go.Proofs.YtigoaokpodggcaaDoor
open MM WW BB
theorem tabs_now {w w' : World} {g : Nat} (h : Tabs w) (hg : w.heap.size = g) (hb : Below g w w') : Tabs w' := h.below hb (by rw [hg]; exact Nat.le_refl _)
set_option maxRecDepth 100000 in
theorem nodes_any (n : Int) (w : World) : Calls Tryd.prog 66 #[.int .i64 n] w fun e w' => e = .returned (.bool (nodesB n)) ∧ w = w' := by
  by_cases h1 : 1 ≤ n
  · by_cases h2 : n ≤ 7
    · have e : nodesB n = true := by simp [nodesB, h1, h2]
      rw [e]; clear e
      go_enter Tryd.func66, Tryd.ntmps66
      go_wp2_with fail
      go_ret
      exact ⟨rfl, rfl⟩
    · have e : nodesB n = false := by simp [nodesB, h2]
      rw [e]; clear e
      go_enter Tryd.func66, Tryd.ntmps66
      go_wp2_with fail
      go_ret
      exact ⟨rfl, rfl⟩
  · have e : nodesB n = false := by simp [nodesB, h1]
    rw [e]; clear e
    go_enter Tryd.func66, Tryd.ntmps66
    go_wp2_with fail
    go_ret
    exact ⟨rfl, rfl⟩
set_option maxRecDepth 100000 in
theorem among_any (x n : Int) (w : World) : Calls Tryd.prog 48 #[.int .i64 x, .int .i64 n] w fun e w' => e = .returned (.bool (amongB x n)) ∧ w = w' := by
  obtain ⟨nb, hnb⟩ : ∃ nb, nodesB n = nb := ⟨_, rfl⟩
  have HN := Lib.hid hnb
  unfold amongB
  rw [hnb]
  clear hnb
  cases nb with
  | false =>
    go_enter Tryd.func48, Tryd.ntmps48
    go_wp2_with fail
    refine (nodes_any n w).mono ?_
    rintro e w' ⟨rfl, rfl⟩
    rw [HN.out]
    go_wp2_with fail
    go_ret
    exact ⟨rfl, rfl⟩
  | true =>
    by_cases h1 : 0 ≤ x
    · by_cases h2 : x < n
      · have e : (true && (decide (0 ≤ x) && decide (x < n))) = true := by simp [h1, h2]
        rw [e]; clear e
        go_enter Tryd.func48, Tryd.ntmps48
        go_wp2_with fail
        refine (nodes_any n w).mono ?_
        rintro e w' ⟨rfl, rfl⟩
        rw [HN.out]
        go_wp2_with fail
        go_ret
        exact ⟨rfl, rfl⟩
      · have e : (true && (decide (0 ≤ x) && decide (x < n))) = false := by simp [h2]
        have t2 : decide (x < n) = false := by simpa using h2
        rw [e]; clear e
        go_enter Tryd.func48, Tryd.ntmps48
        go_wp2_with fail
        refine (nodes_any n w).mono ?_
        rintro e w' ⟨rfl, rfl⟩
        rw [HN.out]
        go_wp2_with fail
        go_ret
        exact ⟨rfl, rfl⟩
    · have e : (true && (decide (0 ≤ x) && decide (x < n))) = false := by simp [h1]
      have t2 : decide (0 ≤ x) = false := by simpa using h1
      rw [e]; clear e
      go_enter Tryd.func48, Tryd.ntmps48
      go_wp2_with fail
      refine (nodes_any n w).mono ?_
      rintro e w' ⟨rfl, rfl⟩
      rw [HN.out]
      go_wp2_with fail
      go_ret
      exact ⟨rfl, rfl⟩
theorem among_is (x n : Int) (b : Bool) (h : amongB x n = b) (w : World) : Calls Tryd.prog 48 #[.int .i64 x, .int .i64 n] w fun e w' => e = .returned (.bool b) ∧ w = w' := by subst h; exact among_any x n w
theorem among_q (x n : Int) (b : Bool) (h : amongB x n = b) (w : World) : Calls Tryd.prog 48 #[.int .i64 x, .int .i64 n] w fun e w' => e = .returned (.bool b) ∧ w' = w := (among_is x n b h w).mono fun _ _ ⟨h1, h2⟩ => ⟨h1, h2.symm⟩
set_option maxRecDepth 100000 in
set_option maxHeartbeats 1000000 in
theorem shaped_any (ts : List ByteArray) (v : Value) (n : Int) (w : World) (hv : StrsAt w v ts) (hn : ts.length ≤ 9223372036854775807) :
    Calls Tryd.prog 49 #[v, .int .i64 n] w fun e w' => e = .returned (.bool (shapedB ts n)) ∧ w = w' := by
  have HV := Lib.hid hv
  have HN := Lib.hid hn
  obtain ⟨a0, cap, rfl, hx⟩ := hv
  clear hn hx
  by_cases hl : (ts.length : Int) = n
  · subst hl
    have E1 : Hid (shapedB ts (ts.length : Int) = ts.all (fun t => decide (t.size = 16))) := Lib.hid (by simp [shapedB])
    go_enter Tryd.func49, Tryd.ntmps49
    go_wp2_with fail
    go_loop [13] (fun v => ∃ i : Nat, i ≤ ts.length ∧ v = .int .i64 (i : Int) ∧ (ts.take i).all (fun t => decide (t.size = 16)) = true) (fun v => ts.length - (intOf v).toNat)
    case atStart => exact ⟨0, Nat.zero_le _, rfl, rfl⟩
    case round =>
      obtain ⟨i, hi, rfl, hall⟩ := hrel
      have HALL := Lib.hid hall
      have i0 : (0 : Int) ≤ (i : Int) := by omega
      have ib : (i : Int) ≤ 9223372036854775807 := by have := HN.out; omega
      clear hall
      by_cases hlt : i < ts.length
      · have hlt' : (i : Int) < (ts.length : Int) := by omega
        have ib1 : (i : Int) + 1 ≤ 9223372036854775807 := by have := HN.out; omega
        obtain ⟨a1, cap1, he, hv | ⟨gb, off, rfl, hbw, hcell⟩⟩ := HV.out
        · rw [hv] at hlt; simp at hlt
        injection he with e1 _ e3
        subst e1 e3
        have hcl := hcell i hlt
        have HSN : Hid ((ts.take (i + 1)).all (fun t => decide (t.size = 16)) = ((ts.take i).all (fun t => decide (t.size = 16)) && decide ((ts.getD i ⟨#[]⟩).size = 16))) := Lib.hid (by
          rw [List.take_succ_eq_append_getElem hlt, List.all_append]
          simp [List.getD, List.getElem?_eq_getElem hlt])
        obtain ⟨s, hs⟩ : ∃ s, ts.getD i ⟨#[]⟩ = s := ⟨_, rfl⟩
        rw [hs] at hcl
        have HSN' := HSN.out
        rw [hs] at HSN'
        have HSN := Lib.hid HSN'
        have HLT := Lib.hid hlt
        clear HSN' hs hlt hi hcell hbw
        by_cases h16 : s.size = 16
        · have t1 : ((s.size : Int) != 16) = false := by rw [h16]; rfl
          have H16 := Lib.hid h16
          clear h16
          go_wp2_with fail
          go_round
          case rel => exact ⟨i + 1, by have := HLT.out; omega, by go_num, by rw [HSN.out, HALL.out]; simpa using H16.out⟩
          case measure => have := HLT.out; simp [intOf]; omega
        · have t1 : ((s.size : Int) != 16) = true := by rw [bne_iff_ne]; omega
          have H16 := Lib.hid h16
          clear h16
          go_wp2_with fail
          go_ret
          refine ⟨?_, rfl⟩
          have hf : (ts.take (i + 1)).all (fun t => decide (t.size = 16)) = false := by rw [HSN.out, HALL.out]; simpa using H16.out
          have : ts.all (fun t => decide (t.size = 16)) = false := by
            rw [List.all_eq_false] at hf ⊢
            obtain ⟨x, hx, hp⟩ := hf
            exact ⟨x, List.mem_of_mem_take hx, hp⟩
          rw [E1.out, this]; rfl
      · obtain rfl : i = ts.length := by omega
        have hlt' : ¬ (ts.length : Int) < (ts.length : Int) := by omega
        clear hi hlt
        go_wp2_with fail
        go_ret
        refine ⟨?_, rfl⟩
        have := HALL.out
        rw [List.take_length] at this
        rw [E1.out, this]; rfl
  · have E1 : Hid (shapedB ts n = false) := Lib.hid (by simp [shapedB, hl])
    have t1 : ((ts.length : Int) != n) = true := by rw [bne_iff_ne]; exact hl
    clear hl
    go_enter Tryd.func49, Tryd.ntmps49
    go_wp2_with fail
    go_ret
    exact ⟨by rw [E1.out]; rfl, rfl⟩
theorem shaped_is (ts : List ByteArray) (v : Value) (n : Int) (b : Bool) (h : shapedB ts n = b) (w : World) (hv : StrsAt w v ts) (hn : ts.length ≤ 9223372036854775807) :
    Calls Tryd.prog 49 #[v, .int .i64 n] w fun e w' => e = .returned (.bool b) ∧ w = w' := by subst h; exact shaped_any ts v n w hv hn
theorem shaped_q (ts : List ByteArray) (v : Value) (n : Int) (b : Bool) (h : shapedB ts n = b) (w : World) (hv : StrsAt w v ts) (hn : ts.length ≤ 9223372036854775807) :
    Calls Tryd.prog 49 #[v, .int .i64 n] w fun e w' => e = .returned (.bool b) ∧ w' = w := (shaped_is ts v n b h w hv hn).mono fun _ _ ⟨h1, h2⟩ => ⟨h1, h2.symm⟩
theorem mtag_in (s : ByteArray) (a b : Int) (t : ByteArray) (ha : 0 ≤ a ∧ a ≤ 20) (hb : 0 ≤ b ∧ b ≤ 20) (hs : s.size ≤ 1000) (ht : t.size ≤ 100000) (w : World) (hT : Tabs w) :
    Calls Tryd.prog 50 #[.string s, .int .i64 a, .int .i64 b, .string t] w fun e w' => e = .returned (.string (tagB s a b t)) ∧ Below w.heap.size w w' := by
  have := mtag_any s a b t hs ht w hT
  rwa [endn_id a ha.1 ha.2, endn_id b hb.1 hb.2] at this
set_option maxRecDepth 100000 in
set_option maxHeartbeats 2000000 in
theorem holds_no (s : ByteArray) (d n : Int) (t : ByteArray) (f : Int) (tv : Value) (ts : List ByteArray) (w : World) (hv : StrsAt w tv ts) (hn : ts.length ≤ 9223372036854775807) (hb : (amongB d n && (amongB f n && shapedB ts n)) = false) :
    Calls Tryd.prog 27 #[.string s, .int .i64 d, .int .i64 n, .string t, .agg #[.int .i64 f, tv]] w fun e w' => e = .returned (.bool false) ∧ Below w.heap.size w w' := by
  have HV := Lib.hid hv
  have HN := Lib.hid hn
  have HB := Lib.hid hb
  obtain ⟨a0, cap, rfl, hx⟩ := hv
  have HVA := Lib.hid (HV.out.later ((Below.refl w.heap.size w).alloc (Nat.le_refl _) (.cells #[.int .i64 f, .slice a0 ts.length cap] 35)))
  clear hn hx hb
  rcases hA : amongB d n with _ | _
  · have HA := Lib.hid hA
    clear hA
    go_enter Tryd.func27, Tryd.ntmps27
    go_wp2_with fail
    have b0 : Below w.heap.size w (w.alloc (.cells #[.int .i64 f, .slice a0 ts.length cap] 35)) := (Below.refl _ _).alloc (Nat.le_refl _) _
    generalize w.alloc (.cells #[.int .i64 f, .slice a0 ts.length cap] 35) = w0 at *
    have B0 := Lib.hid b0
    clear b0
    go_quiet ((go_at_call 48; exact Calls.quiet_of_same (among_q d n false HA.out _)))
    go_wp2_with fail
    go_ret
    exact ⟨rfl, below_drewN B0.out _⟩
  · have HA := Lib.hid hA
    rcases hF : amongB f n with _ | _
    · have HF := Lib.hid hF
      clear hA hF
      go_enter Tryd.func27, Tryd.ntmps27
      go_wp2_with fail
      have c0 := cell_new w #[.int .i64 f, .slice a0 ts.length cap] 35 0 _ rfl
      have b0 : Below w.heap.size w (w.alloc (.cells #[.int .i64 f, .slice a0 ts.length cap] 35)) := (Below.refl _ _).alloc (Nat.le_refl _) _
      generalize w.alloc (.cells #[.int .i64 f, .slice a0 ts.length cap] 35) = w0 at *
      have B0 := Lib.hid b0
      clear b0
      go_quiet ((go_at_call 48; exact Calls.quiet_of_same (among_q _ _ _ (by first | exact HA.out | exact HF.out) _)))
      go_wp2_with fail
      go_ret
      exact ⟨rfl, below_drewN B0.out _⟩
    · have HF := Lib.hid hF
      have HSH : Hid (shapedB ts n = false) := Lib.hid (by have := HB.out; rw [hA, hF] at this; simpa using this)
      clear hA hF
      go_enter Tryd.func27, Tryd.ntmps27
      go_wp2_with fail
      have c0 := cell_new w #[.int .i64 f, .slice a0 ts.length cap] 35 0 _ rfl
      have c1 := cell_new w #[.int .i64 f, .slice a0 ts.length cap] 35 1 _ rfl
      have b0 : Below w.heap.size w (w.alloc (.cells #[.int .i64 f, .slice a0 ts.length cap] 35)) := (Below.refl _ _).alloc (Nat.le_refl _) _
      generalize w.alloc (.cells #[.int .i64 f, .slice a0 ts.length cap] 35) = w0 at *
      have B0 := Lib.hid b0
      clear b0
      go_quiet ((first
        | (go_at_call 48; exact Calls.quiet_of_same (among_q _ _ true (by first | exact HA.out | exact HF.out) _))
        | (go_at_call 49; exact Calls.quiet_of_same (shaped_q ts _ n false HSH.out _ (HVA.out.later (below_drewN (Below.refl _ _) _)) HN.out))))
      go_wp2_with fail
      go_ret
      exact ⟨rfl, below_drewN B0.out _⟩
set_option maxRecDepth 100000 in
set_option maxHeartbeats 2000000 in
theorem holds_yes (s : ByteArray) (d n : Int) (t : ByteArray) (f : Int) (tv : Value) (ts : List ByteArray) (w : World) (hv : StrsAt w tv ts) (hn : ts.length ≤ 9223372036854775807) (hA : amongB d n = true) (hF : amongB f n = true) (hS : shapedB ts n = true) (hs : s.size ≤ 1000) (ht : t.size ≤ 100000) (hT : Tabs w) :
    Calls Tryd.prog 27 #[.string s, .int .i64 d, .int .i64 n, .string t, .agg #[.int .i64 f, tv]] w fun e w' => e = .returned (.bool ((ts.getD d.toNat ⟨#[]⟩).toList == (tagB s f d t).toList)) ∧ Below w.heap.size w w' := by
  obtain ⟨n1, n7, t0, tn⟩ := among_of hA
  obtain ⟨_, _, f0, fn⟩ := among_of hF
  have hl : (ts.length : Int) = n := by
    simp only [shapedB, Bool.and_eq_true, decide_eq_true_eq] at hS; exact hS.1
  obtain ⟨k, rfl⟩ := Int.eq_ofNat_of_zero_le t0
  have hk : k < ts.length := by omega
  rw [Int.toNat_natCast]
  obtain ⟨u, hu⟩ : ∃ u, ts.getD k ⟨#[]⟩ = u := ⟨_, rfl⟩
  rw [hu]
  have HV := Lib.hid hv
  have HN := Lib.hid hn
  have HA := Lib.hid hA
  have HF := Lib.hid hF
  have HS := Lib.hid hS
  have HSS := Lib.hid hs
  have HTT := Lib.hid ht
  have HT := Lib.hid hT
  have HRK := Lib.hid (show (0 : Int) ≤ (k : Int) ∧ (k : Int) ≤ 20 by omega)
  have HRF := Lib.hid (show (0 : Int) ≤ f ∧ f ≤ 20 by omega)
  obtain ⟨a0, cap, rfl, hx⟩ := hv
  rcases hx with hx | ⟨gb, off, rfl, hbw, hcell⟩
  · rw [hx] at hk; simp at hk
  have hcl := hcell k hk
  rw [hu] at hcl
  have hk' : (k : Int) < (ts.length : Int) := by omega
  have hk0 : (0 : Int) ≤ (k : Int) := by omega
  have HL := Lib.hid hl
  clear hn hA hF hS hs ht hT hcell hu hl n1 n7 t0 tn f0 fn hk
  go_enter Tryd.func27, Tryd.ntmps27
  go_wp2_with fail
  have c0 := cell_new w #[.int .i64 f, .slice (some ⟨gb, off, none⟩) ts.length cap] 35 0 _ rfl
  have c1 := cell_new w #[.int .i64 f, .slice (some ⟨gb, off, none⟩) ts.length cap] 35 1 _ rfl
  have b0 : Below w.heap.size w (w.alloc (.cells #[.int .i64 f, .slice (some ⟨gb, off, none⟩) ts.length cap] 35)) := (Below.refl _ _).alloc (Nat.le_refl _) _
  have c2 := (b0.cell (p := ⟨gb, off + k, none⟩) hbw).trans hcl
  generalize w.alloc (.cells #[.int .i64 f, .slice (some ⟨gb, off, none⟩) ts.length cap] 35) = w0 at *
  have z0 := b0.size
  obtain ⟨g, hg⟩ : ∃ g, w.heap.size = g := ⟨_, rfl⟩
  rw [hg] at c0 c1 b0 z0 ⊢
  have HG := Lib.hid hg
  clear hg hbw hcl
  have hst : w0.drew.cell? ⟨g, 0, none⟩ = some (.int .i64 f) ∧ w0.drew.cell? ⟨g, 1, none⟩ = some (.slice (some ⟨gb, off, none⟩) ts.length cap) ∧ w0.drew.cell? ⟨gb, off + k, none⟩ = some (.string u) ∧ Below g w w0.drew ∧ g ≤ w0.drew.heap.size := ⟨c0, c1, c2, b0.drew, z0⟩
  go_region_held3 (fun w' => w'.cell? ⟨g, 0, none⟩ = some (.int .i64 f) ∧ w'.cell? ⟨g, 1, none⟩ = some (.slice (some ⟨gb, off, none⟩) ts.length cap) ∧ w'.cell? ⟨gb, off + k, none⟩ = some (.string u) ∧ Below g w w' ∧ g ≤ w'.heap.size)
    (first | exact hst | assumption | exact hk2)
    (first
      | (go_at_call 48; refine (among_is _ _ true (by first | exact HA.out | exact HF.out) _).mono ?_; rintro e w1 ⟨rfl, rfl⟩)
      | (go_at_call 49; refine (shaped_is ts _ _ true HS.out _ (strs_now HV.out HG.out (by assumption : _ ∧ _ ∧ _ ∧ Below g w _ ∧ _).2.2.2.1) HN.out).mono ?_; rintro e w1 ⟨rfl, rfl⟩)
      | (go_at_call 50; refine (mtag_in s f k t HRF.out HRK.out HSS.out HTT.out _ (tabs_now HT.out HG.out (by assumption : _ ∧ _ ∧ _ ∧ Below g w _ ∧ _).2.2.2.1)).mono ?_; rintro e w1 ⟨rfl, hb1⟩; have hk2 := keepH (w := w) (g := g) (b := gb) (i := off + k) (f := f) (tv := .slice (some ⟨gb, off, none⟩) ts.length cap) (u := u) (by assumption) hb1))
  go_wp2_with fail
  go_ret
  exact ⟨rfl, by rw [HG.out]; exact hk2.2.2.2.1⟩
theorem holds_any (s : ByteArray) (d n : Int) (t : ByteArray) (f : Int) (tv : Value) (ts : List ByteArray) (w : World) (hv : StrsAt w tv ts) (hn : ts.length ≤ 9223372036854775807) (hs : s.size ≤ 1000) (ht : t.size ≤ 100000) (hT : Tabs w) :
    Calls Tryd.prog 27 #[.string s, .int .i64 d, .int .i64 n, .string t, .agg #[.int .i64 f, tv]] w fun e w' => e = .returned (.bool (holdsB s d n t f ts)) ∧ Below w.heap.size w w' := by
  rcases hA : (amongB d n && (amongB f n && shapedB ts n)) with _ | _
  · have : holdsB s d n t f ts = false := by
      unfold holdsB
      rw [← Bool.and_assoc, ← Bool.and_assoc, show (amongB d n && amongB f n && shapedB ts n) = false by rw [← hA, Bool.and_assoc], Bool.false_and]
    rw [this]
    exact holds_no s d n t f tv ts w hv hn hA
  · simp only [Bool.and_eq_true] at hA
    have : holdsB s d n t f ts = ((ts.getD d.toNat ⟨#[]⟩).toList == (tagB s f d t).toList) := by unfold holdsB; rw [hA.1, hA.2.1, hA.2.2]; rfl
    rw [this]
    exact holds_yes s d n t f tv ts w hv hn hA.1 hA.2.1 hA.2.2 hs ht hT
end Go.Proofs.YtigoaokpodggcaaDoor
end
section
open Go Go.RowKit
namespace WW
def quorumI (n : Int) : Int := (if n < 1 then 1 else n) - faultsI n
def leaderI (v n : Int) : Int := if v < 0 ∨ n < 1 then 0 else v % n
theorem faultsI_le (n : Int) : 0 ≤ faultsI n ∧ faultsI n ≤ 3074457345618258603 ∨ 9223372036854775807 < n := by unfold faultsI; split <;> omega
theorem wf_i64 {n : Int} (h : (Lit.int .i64 n).wf = true) : -9223372036854775808 ≤ n ∧ n ≤ 9223372036854775807 := by
  simp [Lit.wf, IntKind.min, IntKind.max, IntKind.signed, IntKind.bits] at h
  omega
end WW
namespace Go.Proofs.YtigoaokpodggcaaDoor
open WW BB
set_option maxRecDepth 100000 in
theorem cfaults_any (n : Int) (h : n ≤ 9223372036854775807) (w : World) : Calls Tryd.prog 55 #[.int .i64 n] w fun e w' => e = .returned (.int .i64 (faultsI n)) ∧ w = w' := by
  by_cases h1 : n < 1
  · have E := Lib.hid (show faultsI n = 0 by unfold faultsI; rw [if_pos h1])
    have h2 : n ≤ 1 := by omega
    go_enter Tryd.func55, Tryd.ntmps55
    go_wp2_with fail
    go_ret
    exact ⟨by rw [E.out]; rfl, rfl⟩
  · have E := Lib.hid (show faultsI n = (n - 1) / 3 by unfold faultsI; rw [if_neg h1])
    have h2 : 0 ≤ n - 1 := by omega
    have h3 : n - 1 ≤ 9223372036854775806 := by omega
    have h4 : 1 ≤ n := by omega
    go_enter Tryd.func55, Tryd.ntmps55
    go_wp2_with fail
    go_ret
    exact ⟨by rw [E.out]; rfl, rfl⟩
theorem cfaults_is (n f : Int) (hf : faultsI n = f) (h : n ≤ 9223372036854775807) (w : World) : Calls Tryd.prog 55 #[.int .i64 n] w fun e w' => e = .returned (.int .i64 f) ∧ w = w' := hf ▸ cfaults_any n h w
theorem rfaults_is (n f : Int) (hf : faultsI n = f) (h : n ≤ 9223372036854775807) (w : World) : Calls Tryd.prog 20 #[.int .i64 n] w fun e w' => e = .returned (.int .i64 f) ∧ w = w' := hf ▸ rfaults_any n h w
set_option maxRecDepth 100000 in
theorem cquorum_any (n : Int) (h : n ≤ 9223372036854775807) (w : World) : Calls Tryd.prog 31 #[.int .i64 n] w fun e w' => e = .returned (.int .i64 (quorumI n)) ∧ w = w' := by
  obtain ⟨f, hf⟩ : ∃ f, faultsI n = f := ⟨_, rfl⟩
  have F := Lib.hid hf
  by_cases h1 : n < 1
  · have E := Lib.hid (show quorumI n = 1 - f by unfold quorumI; rw [if_pos h1, hf])
    have f0 : 0 = f := by rw [← hf]; unfold faultsI; rw [if_pos h1]
    have h2 : n ≤ 1 := by omega
    clear hf
    subst f0
    go_enter Tryd.func31, Tryd.ntmps31
    go_wp2_with fail
    refine (cfaults_is n 0 F.out h w).mono ?_
    rintro e w' ⟨rfl, rfl⟩
    go_wp2_with fail
    go_ret
    exact ⟨by rw [E.out]; rfl, rfl⟩
  · have E := Lib.hid (show quorumI n = n - f by unfold quorumI; rw [if_neg h1, hf])
    have f0 : 0 ≤ f ∧ f ≤ n := by rw [← hf]; unfold faultsI; rw [if_neg h1]; omega
    have f1 := f0.1
    have f2 := f0.2
    have f3 : 0 ≤ n - f := by omega
    have f4 : n - f ≤ 9223372036854775807 := by omega
    have h4 : 1 ≤ n := by omega
    clear hf f0
    go_enter Tryd.func31, Tryd.ntmps31
    go_wp2_with fail
    refine (cfaults_is n f F.out h w).mono ?_
    rintro e w' ⟨rfl, rfl⟩
    go_wp2_with fail
    go_ret
    exact ⟨by rw [E.out]; rfl, rfl⟩
end Go.Proofs.YtigoaokpodggcaaDoor
end
section
open Go Go.RowKit
namespace CC
open MM WW BB
/-- the nodes whose signatures hold, of the first i -/
def goodTo (P : Int × List ByteArray → Bool) (l : List (Int × List ByteArray)) (i : Nat) : List Int := ((l.take i).filter P).map fun p => p.1
theorem good_snoc (P : Int × List ByteArray → Bool) (l : List (Int × List ByteArray)) (i : Nat) (h : i < l.length) : goodTo P l (i + 1) = if P (l.getD i (0, [])) = true then goodTo P l i ++ [(l.getD i (0, [])).1] else goodTo P l i := by
  unfold goodTo
  rw [List.take_succ_eq_append_getElem h, List.filter_append, List.map_append]
  have e : l.getD i (0, []) = l[i] := by simp [List.getD, List.getElem?_eq_getElem h]
  rw [e]
  by_cases hp : P l[i] = true <;> simp [hp]
theorem good_len (P : Int × List ByteArray → Bool) (l : List (Int × List ByteArray)) (i : Nat) : (goodTo P l i).length ≤ l.length := by
  unfold goodTo
  rw [List.length_map]
  have := List.length_filter_le P (l.take i)
  rw [List.length_take] at this
  omega
/-- the nodes whose signatures hold -/
def goodL (s : ByteArray) (d n v : Int) (k : ByteArray) (l : List (Int × List ByteArray)) : List Int :=
  if rightCert v k l = true then goodTo (fun p => holdsB s d n (textB v k) p.1 p.2) l l.length else []
/-- does it hold? -/
def certHolds (s : ByteArray) (d n v : Int) (k : ByteArray) (l : List (Int × List ByteArray)) : Bool :=
  if v = 0 then decide (k = firstD ∧ l = []) else decide (quorumI n ≤ ((goodL s d n v k l).length : Int))
structure GAt (w : World) (e : TypeId) (out : List Int) (u : Value) (wr : World) : Prop where
  below : Below w.heap.size w wr
  own : wr.ownsRow w.heap.size e 1 u out.length (out.map (Value.int .i64))
theorem GAt.on {w w1 w2 : World} {e : TypeId} {out : List Int} {u : Value} (h : GAt w e out u w1) (hb : Below w1.heap.size w1 w2) : GAt w e out u w2 :=
  ⟨h.below.trans (hb.mono h.below.size), row_keep h.own fun c hc => hb.block c (h.own.lt c hc).2⟩
end CC
namespace Go.Proofs.YtigoaokpodggcaaDoor
open CC MM WW BB
theorem tabs_on {w w' : World} (h : Tabs w) (hb : Below w.heap.size w w') : Tabs w' := h.below hb (Nat.le_refl _)
theorem holds5_is (s : ByteArray) (d n : Int) (t : ByteArray) (f : Int) (tv : Value) (ts : List ByteArray) (b : Bool) (h : holdsB s d n t f ts = b) (w : World) (hv : StrsAt w tv ts) (hn : ts.length ≤ 1000) (hs : s.size ≤ 1000) (ht : t.size ≤ 100000) (hT : Tabs w) :
    Calls Tryd.prog 27 #[.string s, .int .i64 d, .int .i64 n, .string t, .agg #[.int .i64 f, tv]] w fun e w' => e = .returned (.bool b) ∧ Below w.heap.size w w' := h ▸ holds_any s d n t f tv ts w hv (by omega) hs ht hT
set_option maxRecDepth 100000 in
set_option maxHeartbeats 8000000 in
theorem good_any (s : ByteArray) (d n v : Int) (k : ByteArray) (sv : Value) (l : List (Int × List ByteArray)) (w : World) (hv : SigsAt w sv l) (hs : s.size ≤ 1000) (hk : k.size ≤ 1000) (hsm : SmallS l) (hz : (certB v k l).size ≤ 1000000) (hT : Tabs w) :
    Calls Tryd.prog 10 #[.string s, .int .i64 d, .int .i64 n, .agg #[.int .i64 v, .string k, sv]] w fun e w' => ∃ v', e = .returned v' ∧ IntsAt w' v' (goodL s d n v k l) ∧ Below w.heap.size w w' := by
  have HV := Lib.hid hv
  have HS := Lib.hid hs
  have HK := Lib.hid hk
  have HSM := Lib.hid hsm
  have HZ := Lib.hid hz
  have HT := Lib.hid hT
  obtain ⟨a0, cap, rfl, _⟩ := hv
  clear hs hk hsm hz hT
  obtain ⟨G, hG⟩ : ∃ G, goodL s d n v k l = G := ⟨_, rfl⟩
  obtain ⟨R, hR⟩ : ∃ R, rightCert v k l = R := ⟨_, rfl⟩
  have HG := Lib.hid hG
  have HR := Lib.hid hR
  rw [hG]
  clear hG hR
  have b1 := Lib.hid ((Below.refl w.heap.size w).alloc (Nat.le_refl _) (.cells #[.int .i64 v, .string k, .slice a0 l.length cap] 24))
  have q0 := cell_new w #[.int .i64 v, .string k, .slice a0 l.length cap] 24 0 _ rfl
  have q1 := cell_new w #[.int .i64 v, .string k, .slice a0 l.length cap] 24 1 _ rfl
  have q2 := cell_new w #[.int .i64 v, .string k, .slice a0 l.length cap] 24 2 _ rfl
  go_enter Tryd.func10, Tryd.ntmps10
  go_wp2_with fail
  obtain ⟨w1, hw1⟩ : ∃ w1, w.alloc (.cells #[.int .i64 v, .string k, .slice a0 l.length cap] 24) = w1 := ⟨_, rfl⟩
  rw [hw1] at q0 q1 q2 b1 ⊢
  clear hw1
  obtain ⟨g, hg⟩ : ∃ g, w.heap.size = g := ⟨_, rfl⟩
  have HGG := Lib.hid hg
  rw [hg] at q0 q1 q2 ⊢
  clear hg
  refine (cright_any v k _ l _ (HV.out.later b1.out) HK.out HSM.out HZ.out).mono ?_
  rintro e w2 ⟨rfl, hb2⟩
  rw [HR.out]
  have B2 := Lib.hid (b1.out.trans (hb2.mono b1.out.size))
  have q0 := (hb2.cell (p := ⟨g, 0, none⟩) (World.block_lt_of_cell? w1 _ q0)).trans q0
  have q1 := (hb2.cell (p := ⟨g, 1, none⟩) (World.block_lt_of_cell? w1 _ q1)).trans q1
  have q2 := (hb2.cell (p := ⟨g, 2, none⟩) (World.block_lt_of_cell? w1 _ q2)).trans q2
  clear hb2 b1
  cases R with
  | false =>
    clear q0 q1 q2
    go_wp2_with fail
    go_ret
    refine ⟨_, rfl, ?_, B2.out⟩
    rw [← HG.out, goodL, HR.out, if_neg (by decide)]
    exact ints_own (e := 3) (base := 0) ⟨rfl, Or.inl ⟨rfl, rfl⟩⟩
  | true =>
    go_wp2_with fail
    refine (text5_any v k (by have := HK.out; omega) w2).mono ?_
    rintro e w3 ⟨rfl, hb3⟩
    obtain ⟨T, hT⟩ : ∃ T, textB v k = T := ⟨_, rfl⟩
    have HTT := Lib.hid hT
    rw [hT]
    clear hT
    have HTZ := Lib.hid (show T.size ≤ 100000 by rw [← HTT.out, textB_size]; have := HK.out; omega)
    have B3 := Lib.hid (B2.out.trans (hb3.mono B2.out.size))
    have q2 := (hb3.cell (p := ⟨g, 2, none⟩) (World.block_lt_of_cell? w2 _ q2)).trans q2
    clear hb3 B2 q0 q1
    have HV3 := Lib.hid (HV.out.later B3.out)
    have HT3 := Lib.hid (tabs_on HT.out B3.out)
    obtain ⟨P, hP⟩ : ∃ P : Int × List ByteArray → Bool, (fun p => holdsB s d n T p.1 p.2) = P := ⟨_, rfl⟩
    have HP := Lib.hid hP
    have HGP := Lib.hid (show goodTo P l l.length = G by rw [← HG.out, goodL, HR.out, if_pos rfl, HTT.out, hP])
    clear hP
    go_wp2_with fail
    go_loopw [10, 24] (fun u x wr => ∃ (i : Nat) (u' : Value), i ≤ l.length ∧ x = .int .i64 (i : Int) ∧ u = u' ∧ GAt w3 3 (goodTo P l i) u' wr) (fun _ x _ => l.length - (intOf x).toNat)
    case atStart => exact ⟨0, _, Nat.zero_le _, rfl, rfl, ⟨Below.refl _ _, rfl, Or.inl ⟨rfl, rfl⟩⟩⟩
    case round =>
      obtain ⟨i, u, hi, rfl, rfl, hO⟩ := hrel
      have HO := Lib.hid hO
      have i0 : (0 : Int) ≤ (i : Int) := by omega
      by_cases hlt : i < l.length
      · have hlt' : (i : Int) < (l.length : Int) := by omega
        have ib : (i : Int) ≤ 1000 := by have := HSM.out.1; omega
        obtain ⟨a1, cap1, he, hv | ⟨gb, off, rfl, hbw, hcell⟩⟩ := HV3.out
        · rw [hv] at hlt; simp at hlt
        injection he with e1 _ e3
        subst e1 e3
        obtain ⟨tv, hc0, hc1, hts⟩ := hcell i hlt
        have hcl0 : wr.cell? ⟨gb, off + i * 2, none⟩ = _ := (HO.out.below.cell (p := ⟨gb, off + i * 2, none⟩) hbw).trans hc0
        have hcl1 : wr.cell? ⟨gb, off + i * 2 + 1, none⟩ = _ := (HO.out.below.cell (p := ⟨gb, off + i * 2 + 1, none⟩) hbw).trans hc1
        have HTS := Lib.hid (hts.later HO.out.below)
        have HSI := Lib.hid (HSM.out.2.2 i hlt).2
        have HSN := Lib.hid (good_snoc P l i hlt)
        obtain ⟨p, hp⟩ : ∃ p, l.getD i (0, []) = p := ⟨_, rfl⟩
        rw [hp] at hcl0 HTS HSI HSN
        obtain ⟨f, ts⟩ := p
        obtain ⟨ta, tcap, rfl, _⟩ := HTS.out
        have HLT := Lib.hid hlt
        have HOL := Lib.hid (good_len P l i)
        obtain ⟨out, hout⟩ : ∃ out, goodTo P l i = out := ⟨_, rfl⟩
        rw [hout] at HO HSN HOL
        have HT0 := Lib.hid hout
        obtain ⟨H, hH⟩ : ∃ H, P (f, ts) = H := ⟨_, rfl⟩
        have HH := Lib.hid (show holdsB s d n T f ts = H by rw [← hH, ← HP.out])
        rw [hH] at HSN
        have b2 := Lib.hid ((Below.refl wr.heap.size wr).alloc (Nat.le_refl _) (.cells #[.int .i64 f, .slice ta ts.length tcap] 35))
        have c0 := cell_new wr #[.int .i64 f, .slice ta ts.length tcap] 35 0 _ rfl
        clear hp hlt hi hcell hbw hc0 hc1 hts hH hO hout
        go_wp2_with fail
        obtain ⟨wa, hwa⟩ : ∃ wa, wr.alloc (.cells #[.int .i64 f, .slice ta ts.length tcap] 35) = wa := ⟨_, rfl⟩
        rw [hwa] at b2 c0 ⊢
        clear hwa hcl0 hcl1
        have OA := Lib.hid (HO.out.on b2.out)
        refine (holds5_is s d n T f _ ts H HH.out wa (HTS.out.later b2.out) HSI.out HS.out HTZ.out (tabs_on (tabs_on HT3.out HO.out.below) b2.out)).mono ?_
        rintro e w4 ⟨rfl, hb4⟩
        have O4 := Lib.hid (OA.out.on hb4)
        have c0 := (hb4.cell (p := ⟨wr.heap.size, 0, none⟩) (World.block_lt_of_cell? wa _ c0)).trans c0
        clear hb4 OA b2 HO
        cases H with
        | true =>
          obtain ⟨ti, i1, i2, i3, i4⟩ := info_parts info_int
          have cx := cell_new w4 #[.int .i64 f] 3 0 _ rfl
          have bal := (Below.refl w4.heap.size w4).alloc (Nat.le_refl _) (.cells #[.int .i64 f] 3)
          have hown2 := (O4.out.on bal).own
          have hbs := (O4.out.on bal).below.size
          go_wp2_with (at_builtin; refine wpList_append_own _ rfl _ _ 28 rfl w3.heap.size 3 ti (.int .i64 0) 1 8 (by kernel_rfl) i1 i2 i3 i4 rfl (by decide) u10 out.length (out.map (Value.int .i64)) rfl hown2 ⟨w4.heap.size, 0, none⟩ 1 1 [.int .i64 f] rfl rfl ?c1 ?c2 ?c3 ?c4 hbs ?_)
          case c1 =>
            intro j u hj
            match j, hj with
            | 0, hj => simp at hj; subst hj; rw [Addr.add_lit]; exact cx
            | j + 1, hj => simp at hj
          case c2 => intro u hu; simp at hu; subst hu; rfl
          case c3 => have := HOL.out; have := HSM.out.1; unfold maxLen; omega
          case c4 => have := HOL.out; have := HSM.out.1; omega
          intro v' w' hown' hgr _
          have hb' : Below w3.heap.size w3 w' := (O4.out.on bal).below.grown hgr (by have := (O4.out.on bal).below.size; omega) (fun k hk => (hown2.lt k hk).1)
          have HB' := Lib.hid hb'
          have HOW' := Lib.hid hown'
          clear hb' hown' hgr hown2 bal cx hbs c0
          go_wp2_with fail
          go_roundw
          case rel => exact ⟨i + 1, _, by have := HLT.out; omega, by go_num, rfl, ⟨HB'.out, by
            rw [show goodTo P l (i + 1) = out ++ [f] by simpa using HSN.out, List.map_append, List.length_append]; exact HOW'.out⟩⟩
          case measure => have := HLT.out; simp [intOf]; omega
        | false =>
          clear c0
          go_wp2_with fail
          go_roundw
          case rel => exact ⟨i + 1, _, by have := HLT.out; omega, by go_num, rfl, by rw [show goodTo P l (i + 1) = out by simpa using HSN.out]; exact O4.out⟩
          case measure => have := HLT.out; simp [intOf]; omega
      · obtain rfl : i = l.length := by omega
        have hlt' : ¬ (l.length : Int) < (l.length : Int) := by omega
        rw [HGP.out] at HO
        clear hi hlt hO
        go_wp2_with fail
        go_ret
        exact ⟨_, rfl, ints_own HO.out.own, B3.out.trans (HO.out.below.mono B3.out.size)⟩
end Go.Proofs.YtigoaokpodggcaaDoor
end
section
open Go Go.RowKit
namespace CC
open MM WW BB
theorem sigs_nil (w : World) : SigsAt w (.slice none 0 0) [] := ⟨none, 0, rfl, Or.inl rfl⟩
end CC
namespace Go.Proofs.YtigoaokpodggcaaDoor
open CC MM WW BB
set_option maxRecDepth 100000 in
set_option maxHeartbeats 8000000 in
theorem chold_zero (s : ByteArray) (d n : Int) (k : ByteArray) (sv : Value) (l : List (Int × List ByteArray)) (w : World) (hv : SigsAt w sv l) (hsm : l.length ≤ 1000 ∧ ∀ i, i < l.length → (l.getD i (0, [])).2.length ≤ 1000) (hT : Tabs w) :
    Calls Tryd.prog 12 #[.string s, .int .i64 d, .int .i64 n, .agg #[.int .i64 0, .string k, sv]] w fun e w' => e = .returned (.bool (decide (k = firstD ∧ l = []))) ∧ Below w.heap.size w w' := by
  have HV := Lib.hid hv
  have HSM := Lib.hid hsm
  have HT := Lib.hid hT
  obtain ⟨a0, cap, rfl, _⟩ := hv
  clear hsm hT
  obtain ⟨X, hX⟩ : ∃ X, decide (k = firstD ∧ l = []) = X := ⟨_, rfl⟩
  have HX := Lib.hid (show decide ((((0 : Int), k), l) = ((0, firstD), [])) = X by rw [← hX]; simp)
  rw [hX]
  clear hX
  have b1 := ((Below.refl w.heap.size w).alloc (Nat.le_refl _) (.cells #[.int .i64 0, .string k, .slice a0 l.length cap] 24))
  have q0 := cell_new w #[.int .i64 0, .string k, .slice a0 l.length cap] 24 0 _ rfl
  have q1 := cell_new w #[.int .i64 0, .string k, .slice a0 l.length cap] 24 1 _ rfl
  have q2 := cell_new w #[.int .i64 0, .string k, .slice a0 l.length cap] 24 2 _ rfl
  go_enter Tryd.func12, Tryd.ntmps12
  go_wp2_with fail
  obtain ⟨w1, hw1⟩ : ∃ w1, w.alloc (.cells #[.int .i64 0, .string k, .slice a0 l.length cap] 24) = w1 := ⟨_, rfl⟩
  rw [hw1] at q0 q1 q2 b1 ⊢
  clear hw1
  obtain ⟨g, hg⟩ : ∃ g, w.heap.size = g := ⟨_, rfl⟩
  have z1 := b1.size
  rw [hg] at q0 q1 q2 b1 z1 ⊢
  have HGG := Lib.hid hg
  clear hg
  have hst := start3 (w := w) q0 q1 q2 b1 z1
  have HV' := Lib.hid (fun (wx : World) (hb : Below g w wx) => HV.out.later (by rw [HGG.out]; exact hb))
  have HT' := Lib.hid (fun (wx : World) (hb : Below g w wx) => tabs_now HT.out HGG.out hb)
  clear b1 q0 q1 q2
  go_region_held3 (fun w' => w'.cell? ⟨g, 0, none⟩ = some (.int .i64 0) ∧ w'.cell? ⟨g, 1, none⟩ = some (.string k) ∧ w'.cell? ⟨g, 2, none⟩ = some (.slice a0 l.length cap) ∧ Below g w w' ∧ g ≤ w'.heap.size)
    (first | exact hst | exact hk)
    (first
      | (go_at_call 22; refine (first_any _ (HT'.out _ (by first | exact hst.2.2.2.1 | exact HK.out))).mono ?_; rintro e w2 ⟨rfl, hb2⟩; have hk := keep3 (w := w) (g := g) (v0 := .int .i64 0) (v1 := .string k) (v2 := .slice a0 l.length cap) (B := g) (by assumption) hb2; have HK := Lib.hid hk.2.2.2.1)
      | (go_at_call 30; refine (same_any 0 0 k firstD _ _ l [] _ (HV'.out _ HK.out) (sigs_nil _) HSM.out.1 HSM.out.2).mono ?_; rintro e w3 ⟨rfl, hb3⟩; rw [HX.out]; have hk := keep3 (w := w) (g := g) (v0 := .int .i64 0) (v1 := .string k) (v2 := .slice a0 l.length cap) (B := g) (by assumption) hb3))
  go_wp2_with fail
  go_ret
  exact ⟨rfl, by rw [HGG.out]; exact hk.2.2.2.1⟩
set_option maxRecDepth 100000 in
set_option maxHeartbeats 8000000 in
theorem chold_more (s : ByteArray) (d n v : Int) (k : ByteArray) (sv : Value) (l : List (Int × List ByteArray)) (w : World) (hv : SigsAt w sv l) (h0 : v ≠ 0) (hn : n ≤ 9223372036854775807) (hs : s.size ≤ 1000) (hk : k.size ≤ 1000) (hsm : SmallS l) (hz : (certB v k l).size ≤ 1000000) (hT : Tabs w) :
    Calls Tryd.prog 12 #[.string s, .int .i64 d, .int .i64 n, .agg #[.int .i64 v, .string k, sv]] w fun e w' => e = .returned (.bool (decide (quorumI n ≤ ((goodL s d n v k l).length : Int)))) ∧ Below w.heap.size w w' := by
  have HV := Lib.hid hv
  have HS := Lib.hid hs
  have HK := Lib.hid hk
  have HN := Lib.hid hn
  have HSM := Lib.hid hsm
  have HZ := Lib.hid hz
  have HT := Lib.hid hT
  have t0 : (v == 0) = false := by simpa using h0
  obtain ⟨a0, cap, rfl, _⟩ := hv
  clear hs hk hsm hz hT hn h0
  obtain ⟨G, hG⟩ : ∃ G, goodL s d n v k l = G := ⟨_, rfl⟩
  have HG := Lib.hid hG
  rw [hG]
  clear hG
  have b1 := Lib.hid ((Below.refl w.heap.size w).alloc (Nat.le_refl _) (.cells #[.int .i64 v, .string k, .slice a0 l.length cap] 24))
  go_enter Tryd.func12, Tryd.ntmps12
  go_wp2_with fail
  refine (good_any s d n v k _ l _ (HV.out.later b1.out) HS.out HK.out HSM.out HZ.out (tabs_on HT.out b1.out)).mono ?_
  rintro e w2 ⟨v', rfl, hI, hb2⟩
  rw [HG.out] at hI
  obtain ⟨ga, gcap, rfl, _, _⟩ := hI
  have B2 := Lib.hid (b1.out.trans (hb2.mono b1.out.size))
  clear hb2 b1
  go_wp2_with fail
  refine (cquorum_any n HN.out w2).mono ?_
  rintro e w' ⟨rfl, rfl⟩
  obtain ⟨q, hq⟩ : ∃ q, quorumI n = q := ⟨_, rfl⟩
  rw [hq]
  go_wp2_with fail
  go_ret
  exact ⟨by rw [hq]; rfl, B2.out⟩
theorem chold_any (s : ByteArray) (d n v : Int) (k : ByteArray) (sv : Value) (l : List (Int × List ByteArray)) (w : World) (hv : SigsAt w sv l) (hn : n ≤ 9223372036854775807) (hs : s.size ≤ 1000) (hk : k.size ≤ 1000) (hsm : SmallS l) (hz : (certB v k l).size ≤ 1000000) (hT : Tabs w) :
    Calls Tryd.prog 12 #[.string s, .int .i64 d, .int .i64 n, .agg #[.int .i64 v, .string k, sv]] w fun e w' => e = .returned (.bool (certHolds s d n v k l)) ∧ Below w.heap.size w w' := by
  unfold certHolds
  by_cases h0 : v = 0
  · subst h0
    rw [if_pos rfl]
    exact chold_zero s d n k sv l w hv ⟨hsm.1, fun i hi => (hsm.2.2 i hi).2⟩ hT
  · rw [if_neg h0]
    exact chold_more s d n v k sv l w hv h0 hn hs hk hsm hz hT
theorem chold_is (b : Bool) (s : ByteArray) (d n v : Int) (k : ByteArray) (sv : Value) (l : List (Int × List ByteArray)) (hb : certHolds s d n v k l = b) (w : World) (hv : SigsAt w sv l) (hn : n ≤ 9223372036854775807) (hs : s.size ≤ 1000) (hk : k.size ≤ 1000) (hsm : SmallS l) (hz : (certB v k l).size ≤ 1000000) (hT : Tabs w) :
    Calls Tryd.prog 12 #[.string s, .int .i64 d, .int .i64 n, .agg #[.int .i64 v, .string k, sv]] w fun e w' => e = .returned (.bool b) ∧ Below w.heap.size w w' := hb ▸ chold_any s d n v k sv l w hv hn hs hk hsm hz hT
theorem cert_f1 (v : Int) (k : ByteArray) (s : Value) (w : World) : (Instr.field 24 (.agg #[.int .i64 v, .string k, s]) 1).run Tryd.prog w = .ok (.string k) w := by kernel_rfl
theorem cert_f0 (v : Int) (k : ByteArray) (s : Value) (w : World) : (Instr.field 24 (.agg #[.int .i64 v, .string k, s]) 0).run Tryd.prog w = .ok (.int .i64 v) w := by kernel_rfl
theorem cert_f2 (v : Int) (k : ByteArray) (s : Value) (w : World) : (Instr.field 24 (.agg #[.int .i64 v, .string k, s]) 2).run Tryd.prog w = .ok s w := by kernel_rfl
set_option maxRecDepth 100000 in
set_option maxHeartbeats 2000000 in
theorem awake5_any (w : World) (hT : Tabs w) : Calls Tryd.prog 8 #[] w fun e w' => e = .returned (.bool true) ∧ Below w.heap.size w w' := by
  have HT := Lib.hid hT
  clear hT
  go_enter Tryd.func8, Tryd.ntmps8
  go_wp2_with fail
  refine (first_any w HT.out).mono ?_
  rintro e w1 ⟨rfl, hb1⟩
  have B1 := Lib.hid hb1
  clear hb1
  go_wp2_with fail
  refine (chold_zero _ 0 1 firstD _ [] w1 (sigs_nil _) ⟨by simp, by simp⟩ (tabs_on HT.out B1.out)).mono ?_
  rintro e w2 ⟨rfl, hb2⟩
  rw [show decide (firstD = firstD ∧ ([] : List (Int × List ByteArray)) = []) = true by simp]
  have B2 := Lib.hid (B1.out.trans (hb2.mono B1.out.size))
  clear hb2
  go_wp2_with fail
  refine (first_any w2 (tabs_on HT.out B2.out)).mono ?_
  rintro e w3 ⟨rfl, hb3⟩
  have B3 := Lib.hid (B2.out.trans (hb3.mono B2.out.size))
  have hz : (firstD.size : Int) = 32 := by rw [firstD_size]; rfl
  have hfd := cert_f1 0 firstD (.slice none 0 0)
  clear hb3
  go_wp2_with fail
  go_ret
  exact ⟨rfl, B3.out⟩
end Go.Proofs.YtigoaokpodggcaaDoor
end
