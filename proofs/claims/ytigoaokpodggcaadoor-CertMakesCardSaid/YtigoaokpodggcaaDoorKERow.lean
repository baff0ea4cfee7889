/-
  A row of signatures in memory that may be written. No program is named here.
-/
import Derived.Test.YtigoaokpodggcaaDoorKMKey
import Derived.Test.YtigoaokpodggcaaDoorKLOpen
import Derived.BigQuiet
import Derived.WalkSmall
import Derived.Deep.QuietTactic
import Derived.Deep.RegionHeld3
import Derived.Test.YtigoaokpodggcaaDoorKWNumCut
import Derived.Test.YtigoaokpodggcaaDoorRows
import Derived.Test.YtigoaokpodggcaaDoorChecked
import Derived.SliceStrings
import Derived.Lib.SmallJoins
import Derived.Deep.Slices
import Derived.Deep.Strs
import Derived.Sort.LotA
import Derived.Shelf.SlSortCmp.InsertionK
section
open Go Go.RowKit
namespace CC
open MM WW BB
/-- a vote's text -/
def textB (v : Int) (k : ByteArray) : ByteArray := ⟨#[86]⟩ ++ num v ++ k
theorem textB_size (v : Int) (k : ByteArray) : (textB v k).size = 5 + k.size := by
  have h1 : (⟨#[86]⟩ : ByteArray).size = 1 := rfl
  simp only [textB, ByteArray.size_append, num_size, h1]
/-- the first block's digest -/
def firstD : ByteArray := dg ⟨#[102, 105, 114, 115, 116]⟩
theorem firstD_size : firstD.size = 32 := dsize _
/-- the cells of a certificate -/
def cC (v : Value) (k : ByteArray) (s : Value) : Nat → Value := fun i => if i = 0 then v else if i = 1 then .string k else s
theorem cC_row (v : Value) (k : ByteArray) (s : Value) : #[v, .string k, s] = row 3 (cC v k s) := by rfl
end CC
namespace Go.Proofs.YtigoaokpodggcaaDoor
open CC MM WW BB
set_option maxRecDepth 100000 in
set_option maxHeartbeats 1000000 in
theorem text5_any (v : Int) (k : ByteArray) (hk : k.size ≤ 1000000) (w : World) :
    Calls Tryd.prog 24 #[.int .i64 v, .string k] w fun e w' => e = .returned (.string (textB v k)) ∧ Below w.heap.size w w' := by
  have h1 : ¬ 9223372036854775807 < (⟨#[86]⟩ : ByteArray).size + (num v).size := by rw [num_size, show (⟨#[86]⟩ : ByteArray).size = 1 from rfl]; omega
  have h2 : ¬ 9223372036854775807 < ((⟨#[86]⟩ : ByteArray) ++ num v).size + k.size := by rw [ByteArray.size_append, num_size, show (⟨#[86]⟩ : ByteArray).size = 1 from rfl]; omega
  clear hk
  go_enter Tryd.func24, Tryd.ntmps24
  go_wp2_with fail
  refine (number_any _ _).mono ?_
  rintro e w1 ⟨rfl, hb1⟩
  go_wp2_with fail
  go_ret
  exact ⟨rfl, hb1⟩
set_option maxRecDepth 100000 in
set_option maxHeartbeats 1000000 in
theorem rtext5_any (v : Int) (k : ByteArray) (hk : k.size ≤ 1000000) (w : World) :
    Calls Tryd.prog 25 #[.int .i64 v, .string k] w fun e w' => e = .returned (.string (textB v k)) ∧ Below w.heap.size w w' := by
  have h1 : ¬ 9223372036854775807 < (⟨#[86]⟩ : ByteArray).size + (num v).size := by rw [num_size, show (⟨#[86]⟩ : ByteArray).size = 1 from rfl]; omega
  have h2 : ¬ 9223372036854775807 < ((⟨#[86]⟩ : ByteArray) ++ num v).size + k.size := by rw [ByteArray.size_append, num_size, show (⟨#[86]⟩ : ByteArray).size = 1 from rfl]; omega
  clear hk
  go_enter Tryd.func25, Tryd.ntmps25
  go_wp2_with fail
  refine (rnumber_any _ _).mono ?_
  rintro e w1 ⟨rfl, hb1⟩
  go_wp2_with fail
  go_ret
  exact ⟨rfl, hb1⟩
set_option maxRecDepth 100000 in
set_option maxHeartbeats 1000000 in
theorem rfirst_any (w : World) : Calls Tryd.prog 23 #[] w fun e w' => e = .returned (.string firstD) ∧ Below w.heap.size w w' := by
  go_enter Tryd.func23, Tryd.ntmps23
  go_wp2_with fail
  refine (rsum_dg _ (by decide) _).mono ?_
  rintro e w1 ⟨rfl, hb1⟩
  go_wp2_with fail
  go_ret
  exact ⟨rfl, hb1⟩
set_option maxRecDepth 100000 in
set_option maxHeartbeats 1000000 in
theorem first_any (w : World) (hT : Tabs w) : Calls Tryd.prog 22 #[] w fun e w' => e = .returned (.agg #[.int .i64 0, .string firstD, .slice none 0 0]) ∧ Below w.heap.size w w' := by
  have HT := Lib.hid hT
  clear hT
  go_enter Tryd.func22, Tryd.ntmps22
  go_wp2_with fail
  obtain ⟨a, ha⟩ : ∃ a, w.heap.size = a := ⟨_, rfl⟩
  have k0 : Blk (w.alloc (.cells #[.int .i64 0, .string ⟨#[]⟩, .slice none 0 0] 24)) a 3 (cC (.int .i64 0) ⟨#[]⟩ (.slice none 0 0)) := Blk.new' ha.symm (cC_row _ _ _)
  have b0 := (Below.refl w.heap.size w).alloc (Nat.le_refl _) (.cells #[.int .i64 0, .string ⟨#[]⟩, .slice none 0 0] 24)
  have HT1 := Lib.hid (HT.out.below b0 (Nat.le_refl _))
  rw [ha] at b0 ⊢
  have HAA := Lib.hid ha
  clear ha
  generalize w.alloc (.cells #[.int .i64 0, .string ⟨#[]⟩, .slice none 0 0] 24) = w1 at *
  refine (sum_any ⟨#[102, 105, 114, 115, 116]⟩ (by decide) w1 HT1.out).mono ?_
  rintro e w2 ⟨rfl, hb2⟩
  have B2 := Lib.hid (b0.trans (hb2.mono (Nat.le_of_lt k0.lt)))
  have K2 := Lib.hid (k0.below hb2 k0.lt)
  clear b0 k0 hb2
  have c0 : w2.cell? ⟨a, 0, none⟩ = some (.int .i64 0) := K2.out.get 0 (by omega)
  have g0 := K2.out.frz 0
  have c1 : w2.cell? ⟨a, 1, none⟩ = some (.string ⟨#[]⟩) := K2.out.get 1 (by omega)
  have g1 := K2.out.frz 1
  have c2 : w2.cell? ⟨a, 2, none⟩ = some (.slice none 0 0) := K2.out.get 2 (by omega)
  have g2 := K2.out.frz 2
  go_wp2_with fail
  have k3 := ((K2.out.set 0 (.int .i64 0)).set 1 (.string firstD)).set 2 (.slice none 0 0)
  have q0 := k3.get 0 (by omega)
  have q1 := k3.get 1 (by omega)
  have q2 := k3.get 2 (by omega)
  rw [show put (put (put (cC (.int .i64 0) ⟨#[]⟩ (.slice none 0 0)) 0 (.int .i64 0)) 1 (.string firstD)) 2 (.slice none 0 0) 0 = .int .i64 0 from rfl] at q0
  rw [show put (put (put (cC (.int .i64 0) ⟨#[]⟩ (.slice none 0 0)) 0 (.int .i64 0)) 1 (.string firstD)) 2 (.slice none 0 0) 1 = .string firstD from rfl] at q1
  rw [show put (put (put (cC (.int .i64 0) ⟨#[]⟩ (.slice none 0 0)) 0 (.int .i64 0)) 1 (.string firstD)) 2 (.slice none 0 0) 2 = .slice none 0 0 from rfl] at q2
  unfold firstD at q0 q1 q2 ⊢
  refine bodyPost_ret (v := .agg #[.int .i64 0, .string (dg ⟨#[102, 105, 114, 115, 116]⟩), .slice none 0 0]) (by simp [results, Tryd.results22, go_sem, q0, q1, q2]) rfl ⟨rfl, ?_⟩
  rw [HAA.out]
  exact B2.out.trans ((((Upd.set _ _ _ _).trans (Upd.set _ _ _ _)).trans (Upd.set _ _ _ _)).below (Nat.le_refl _))
end Go.Proofs.YtigoaokpodggcaaDoor
end
section
open Go Go.RowKit
namespace MM
open WW BB
/-- may there be n nodes? -/
def nodesB (n : Int) : Bool := decide (1 ≤ n) && decide (n ≤ 7)
/-- are there n nodes, and is this one of them? -/
def amongB (x n : Int) : Bool := nodesB n && (decide (0 ≤ x) && decide (x < n))
/-- a tag for each, of a tag's size -/
def shapedB (ts : List ByteArray) (n : Int) : Bool := decide ((ts.length : Int) = n) && ts.all (fun t => decide (t.size = 16))
/-- the signature holds -/
def holdsB (s : ByteArray) (d n : Int) (t : ByteArray) (f : Int) (ts : List ByteArray) : Bool :=
  amongB d n && (amongB f n && (shapedB ts n && ((ts.getD d.toNat ⟨#[]⟩).toList == (tagB s f d t).toList)))
theorem among_of {x n : Int} (h : amongB x n = true) : 1 ≤ n ∧ n ≤ 7 ∧ 0 ≤ x ∧ x < n := by
  simp only [amongB, nodesB, Bool.and_eq_true, decide_eq_true_eq] at h; omega
theorem among_mk {x n : Int} (h1 : 1 ≤ n) (h2 : n ≤ 7) (h3 : 0 ≤ x) (h4 : x < n) : amongB x n = true := by
  simp only [amongB, nodesB, Bool.and_eq_true, decide_eq_true_eq]; omega
/-- the box of a signature, and the tag of one node -/
def HoldsAt (w : World) (g : Nat) (f : Int) (tv : Value) (b i : Nat) (u : ByteArray) (w' : World) : Prop :=
  w'.cell? ⟨g, 0, none⟩ = some (.int .i64 f) ∧ w'.cell? ⟨g, 1, none⟩ = some tv ∧ w'.cell? ⟨b, i, none⟩ = some (.string u) ∧ Below g w w' ∧ g ≤ w'.heap.size
section
variable {w w' w2 : World} {g b i : Nat} {f : Int} {tv : Value} {u : ByteArray} {ts : List ByteArray}
theorem keepH (h : w'.cell? ⟨g, 0, none⟩ = some (.int .i64 f) ∧ w'.cell? ⟨g, 1, none⟩ = some tv ∧ w'.cell? ⟨b, i, none⟩ = some (.string u) ∧ Below g w w' ∧ g ≤ w'.heap.size) (hb : Below w'.heap.size w' w2) :
    w2.cell? ⟨g, 0, none⟩ = some (.int .i64 f) ∧ w2.cell? ⟨g, 1, none⟩ = some tv ∧ w2.cell? ⟨b, i, none⟩ = some (.string u) ∧ Below g w w2 ∧ g ≤ w2.heap.size := by
  have hl := World.block_lt_of_cell? w' _ h.1
  have hl2 := World.block_lt_of_cell? w' _ h.2.2.1
  exact ⟨(hb.cell (p := ⟨g, 0, none⟩) hl).trans h.1, (hb.cell (p := ⟨g, 1, none⟩) hl).trans h.2.1, (hb.cell (p := ⟨b, i, none⟩) hl2).trans h.2.2.1, h.2.2.2.1.trans (hb.mono h.2.2.2.2), Nat.le_trans h.2.2.2.2 hb.size⟩
theorem strs_now (hV : StrsAt w tv ts) (hg : w.heap.size = g) (h : Below g w w') : StrsAt w' tv ts := hV.later (by rw [hg]; exact h)
end
end MM
namespace Go.Proofs.YtigoaokpodggcaaDoor
open MM WW BB
theorem tabs_now {w w' : World} {g : Nat} (h : Tabs w) (hg : w.heap.size = g) (hb : Below g w w') : Tabs w' := h.below hb (by rw [hg]; exact Nat.le_refl _)
set_option maxRecDepth 100000 in
theorem nodes_any (n : Int) (w : World) : Calls Tryd.prog 66 #[.int .i64 n] w fun e w' => e = .returned (.bool (nodesB n)) ∧ w = w' := by
  by_cases h1 : 1 ≤ n
  · by_cases h2 : n ≤ 7
    · have e : nodesB n = true := by simp [nodesB, h1, h2]
      rw [e]; clear e
      go_enter Tryd.func66, Tryd.ntmps66
      go_wp2_with fail
      go_ret
      exact ⟨rfl, rfl⟩
    · have e : nodesB n = false := by simp [nodesB, h2]
      rw [e]; clear e
      go_enter Tryd.func66, Tryd.ntmps66
      go_wp2_with fail
      go_ret
      exact ⟨rfl, rfl⟩
  · have e : nodesB n = false := by simp [nodesB, h1]
    rw [e]; clear e
    go_enter Tryd.func66, Tryd.ntmps66
    go_wp2_with fail
    go_ret
    exact ⟨rfl, rfl⟩
set_option maxRecDepth 100000 in
theorem among_any (x n : Int) (w : World) : Calls Tryd.prog 48 #[.int .i64 x, .int .i64 n] w fun e w' => e = .returned (.bool (amongB x n)) ∧ w = w' := by
  obtain ⟨nb, hnb⟩ : ∃ nb, nodesB n = nb := ⟨_, rfl⟩
  have HN := Lib.hid hnb
  unfold amongB
  rw [hnb]
  clear hnb
  cases nb with
  | false =>
    go_enter Tryd.func48, Tryd.ntmps48
    go_wp2_with fail
    refine (nodes_any n w).mono ?_
    rintro e w' ⟨rfl, rfl⟩
    rw [HN.out]
    go_wp2_with fail
    go_ret
    exact ⟨rfl, rfl⟩
  | true =>
    by_cases h1 : 0 ≤ x
    · by_cases h2 : x < n
      · have e : (true && (decide (0 ≤ x) && decide (x < n))) = true := by simp [h1, h2]
        rw [e]; clear e
        go_enter Tryd.func48, Tryd.ntmps48
        go_wp2_with fail
        refine (nodes_any n w).mono ?_
        rintro e w' ⟨rfl, rfl⟩
        rw [HN.out]
        go_wp2_with fail
        go_ret
        exact ⟨rfl, rfl⟩
      · have e : (true && (decide (0 ≤ x) && decide (x < n))) = false := by simp [h2]
        have t2 : decide (x < n) = false := by simpa using h2
        rw [e]; clear e
        go_enter Tryd.func48, Tryd.ntmps48
        go_wp2_with fail
        refine (nodes_any n w).mono ?_
        rintro e w' ⟨rfl, rfl⟩
        rw [HN.out]
        go_wp2_with fail
        go_ret
        exact ⟨rfl, rfl⟩
    · have e : (true && (decide (0 ≤ x) && decide (x < n))) = false := by simp [h1]
      have t2 : decide (0 ≤ x) = false := by simpa using h1
      rw [e]; clear e
      go_enter Tryd.func48, Tryd.ntmps48
      go_wp2_with fail
      refine (nodes_any n w).mono ?_
      rintro e w' ⟨rfl, rfl⟩
      rw [HN.out]
      go_wp2_with fail
      go_ret
      exact ⟨rfl, rfl⟩
theorem among_is (x n : Int) (b : Bool) (h : amongB x n = b) (w : World) : Calls Tryd.prog 48 #[.int .i64 x, .int .i64 n] w fun e w' => e = .returned (.bool b) ∧ w = w' := by subst h; exact among_any x n w
theorem among_q (x n : Int) (b : Bool) (h : amongB x n = b) (w : World) : Calls Tryd.prog 48 #[.int .i64 x, .int .i64 n] w fun e w' => e = .returned (.bool b) ∧ w' = w := (among_is x n b h w).mono fun _ _ ⟨h1, h2⟩ => ⟨h1, h2.symm⟩
set_option maxRecDepth 100000 in
set_option maxHeartbeats 1000000 in
theorem shaped_any (ts : List ByteArray) (v : Value) (n : Int) (w : World) (hv : StrsAt w v ts) (hn : ts.length ≤ 9223372036854775807) :
    Calls Tryd.prog 49 #[v, .int .i64 n] w fun e w' => e = .returned (.bool (shapedB ts n)) ∧ w = w' := by
  have HV := Lib.hid hv
  have HN := Lib.hid hn
  obtain ⟨a0, cap, rfl, hx⟩ := hv
  clear hn hx
  by_cases hl : (ts.length : Int) = n
  · subst hl
    have E1 : Hid (shapedB ts (ts.length : Int) = ts.all (fun t => decide (t.size = 16))) := Lib.hid (by simp [shapedB])
    go_enter Tryd.func49, Tryd.ntmps49
    go_wp2_with fail
    go_loop [13] (fun v => ∃ i : Nat, i ≤ ts.length ∧ v = .int .i64 (i : Int) ∧ (ts.take i).all (fun t => decide (t.size = 16)) = true) (fun v => ts.length - (intOf v).toNat)
    case atStart => exact ⟨0, Nat.zero_le _, rfl, rfl⟩
    case round =>
      obtain ⟨i, hi, rfl, hall⟩ := hrel
      have HALL := Lib.hid hall
      have i0 : (0 : Int) ≤ (i : Int) := by omega
      have ib : (i : Int) ≤ 9223372036854775807 := by have := HN.out; omega
      clear hall
      by_cases hlt : i < ts.length
      · have hlt' : (i : Int) < (ts.length : Int) := by omega
        have ib1 : (i : Int) + 1 ≤ 9223372036854775807 := by have := HN.out; omega
        obtain ⟨a1, cap1, he, hv | ⟨gb, off, rfl, hbw, hcell⟩⟩ := HV.out
        · rw [hv] at hlt; simp at hlt
        injection he with e1 _ e3
        subst e1 e3
        have hcl := hcell i hlt
        have HSN : Hid ((ts.take (i + 1)).all (fun t => decide (t.size = 16)) = ((ts.take i).all (fun t => decide (t.size = 16)) && decide ((ts.getD i ⟨#[]⟩).size = 16))) := Lib.hid (by
          rw [List.take_succ_eq_append_getElem hlt, List.all_append]
          simp [List.getD, List.getElem?_eq_getElem hlt])
        obtain ⟨s, hs⟩ : ∃ s, ts.getD i ⟨#[]⟩ = s := ⟨_, rfl⟩
        rw [hs] at hcl
        have HSN' := HSN.out
        rw [hs] at HSN'
        have HSN := Lib.hid HSN'
        have HLT := Lib.hid hlt
        clear HSN' hs hlt hi hcell hbw
        by_cases h16 : s.size = 16
        · have t1 : ((s.size : Int) != 16) = false := by rw [h16]; rfl
          have H16 := Lib.hid h16
          clear h16
          go_wp2_with fail
          go_round
          case rel => exact ⟨i + 1, by have := HLT.out; omega, by go_num, by rw [HSN.out, HALL.out]; simpa using H16.out⟩
          case measure => have := HLT.out; simp [intOf]; omega
        · have t1 : ((s.size : Int) != 16) = true := by rw [bne_iff_ne]; omega
          have H16 := Lib.hid h16
          clear h16
          go_wp2_with fail
          go_ret
          refine ⟨?_, rfl⟩
          have hf : (ts.take (i + 1)).all (fun t => decide (t.size = 16)) = false := by rw [HSN.out, HALL.out]; simpa using H16.out
          have : ts.all (fun t => decide (t.size = 16)) = false := by
            rw [List.all_eq_false] at hf ⊢
            obtain ⟨x, hx, hp⟩ := hf
            exact ⟨x, List.mem_of_mem_take hx, hp⟩
          rw [E1.out, this]; rfl
      · obtain rfl : i = ts.length := by omega
        have hlt' : ¬ (ts.length : Int) < (ts.length : Int) := by omega
        clear hi hlt
        go_wp2_with fail
        go_ret
        refine ⟨?_, rfl⟩
        have := HALL.out
        rw [List.take_length] at this
        rw [E1.out, this]; rfl
  · have E1 : Hid (shapedB ts n = false) := Lib.hid (by simp [shapedB, hl])
    have t1 : ((ts.length : Int) != n) = true := by rw [bne_iff_ne]; exact hl
    clear hl
    go_enter Tryd.func49, Tryd.ntmps49
    go_wp2_with fail
    go_ret
    exact ⟨by rw [E1.out]; rfl, rfl⟩
theorem shaped_is (ts : List ByteArray) (v : Value) (n : Int) (b : Bool) (h : shapedB ts n = b) (w : World) (hv : StrsAt w v ts) (hn : ts.length ≤ 9223372036854775807) :
    Calls Tryd.prog 49 #[v, .int .i64 n] w fun e w' => e = .returned (.bool b) ∧ w = w' := by subst h; exact shaped_any ts v n w hv hn
theorem shaped_q (ts : List ByteArray) (v : Value) (n : Int) (b : Bool) (h : shapedB ts n = b) (w : World) (hv : StrsAt w v ts) (hn : ts.length ≤ 9223372036854775807) :
    Calls Tryd.prog 49 #[v, .int .i64 n] w fun e w' => e = .returned (.bool b) ∧ w' = w := (shaped_is ts v n b h w hv hn).mono fun _ _ ⟨h1, h2⟩ => ⟨h1, h2.symm⟩
theorem mtag_in (s : ByteArray) (a b : Int) (t : ByteArray) (ha : 0 ≤ a ∧ a ≤ 20) (hb : 0 ≤ b ∧ b ≤ 20) (hs : s.size ≤ 1000) (ht : t.size ≤ 100000) (w : World) (hT : Tabs w) :
    Calls Tryd.prog 50 #[.string s, .int .i64 a, .int .i64 b, .string t] w fun e w' => e = .returned (.string (tagB s a b t)) ∧ Below w.heap.size w w' := by
  have := mtag_any s a b t hs ht w hT
  rwa [endn_id a ha.1 ha.2, endn_id b hb.1 hb.2] at this
set_option maxRecDepth 100000 in
set_option maxHeartbeats 2000000 in
theorem holds_no (s : ByteArray) (d n : Int) (t : ByteArray) (f : Int) (tv : Value) (ts : List ByteArray) (w : World) (hv : StrsAt w tv ts) (hn : ts.length ≤ 9223372036854775807) (hb : (amongB d n && (amongB f n && shapedB ts n)) = false) :
    Calls Tryd.prog 27 #[.string s, .int .i64 d, .int .i64 n, .string t, .agg #[.int .i64 f, tv]] w fun e w' => e = .returned (.bool false) ∧ Below w.heap.size w w' := by
  have HV := Lib.hid hv
  have HN := Lib.hid hn
  have HB := Lib.hid hb
  obtain ⟨a0, cap, rfl, hx⟩ := hv
  have HVA := Lib.hid (HV.out.later ((Below.refl w.heap.size w).alloc (Nat.le_refl _) (.cells #[.int .i64 f, .slice a0 ts.length cap] 35)))
  clear hn hx hb
  rcases hA : amongB d n with _ | _
  · have HA := Lib.hid hA
    clear hA
    go_enter Tryd.func27, Tryd.ntmps27
    go_wp2_with fail
    have b0 : Below w.heap.size w (w.alloc (.cells #[.int .i64 f, .slice a0 ts.length cap] 35)) := (Below.refl _ _).alloc (Nat.le_refl _) _
    generalize w.alloc (.cells #[.int .i64 f, .slice a0 ts.length cap] 35) = w0 at *
    have B0 := Lib.hid b0
    clear b0
    go_quiet ((go_at_call 48; exact Calls.quiet_of_same (among_q d n false HA.out _)))
    go_wp2_with fail
    go_ret
    exact ⟨rfl, below_drewN B0.out _⟩
  · have HA := Lib.hid hA
    rcases hF : amongB f n with _ | _
    · have HF := Lib.hid hF
      clear hA hF
      go_enter Tryd.func27, Tryd.ntmps27
      go_wp2_with fail
      have c0 := cell_new w #[.int .i64 f, .slice a0 ts.length cap] 35 0 _ rfl
      have b0 : Below w.heap.size w (w.alloc (.cells #[.int .i64 f, .slice a0 ts.length cap] 35)) := (Below.refl _ _).alloc (Nat.le_refl _) _
      generalize w.alloc (.cells #[.int .i64 f, .slice a0 ts.length cap] 35) = w0 at *
      have B0 := Lib.hid b0
      clear b0
      go_quiet ((go_at_call 48; exact Calls.quiet_of_same (among_q _ _ _ (by first | exact HA.out | exact HF.out) _)))
      go_wp2_with fail
      go_ret
      exact ⟨rfl, below_drewN B0.out _⟩
    · have HF := Lib.hid hF
      have HSH : Hid (shapedB ts n = false) := Lib.hid (by have := HB.out; rw [hA, hF] at this; simpa using this)
      clear hA hF
      go_enter Tryd.func27, Tryd.ntmps27
      go_wp2_with fail
      have c0 := cell_new w #[.int .i64 f, .slice a0 ts.length cap] 35 0 _ rfl
      have c1 := cell_new w #[.int .i64 f, .slice a0 ts.length cap] 35 1 _ rfl
      have b0 : Below w.heap.size w (w.alloc (.cells #[.int .i64 f, .slice a0 ts.length cap] 35)) := (Below.refl _ _).alloc (Nat.le_refl _) _
      generalize w.alloc (.cells #[.int .i64 f, .slice a0 ts.length cap] 35) = w0 at *
      have B0 := Lib.hid b0
      clear b0
      go_quiet ((first
        | (go_at_call 48; exact Calls.quiet_of_same (among_q _ _ true (by first | exact HA.out | exact HF.out) _))
        | (go_at_call 49; exact Calls.quiet_of_same (shaped_q ts _ n false HSH.out _ (HVA.out.later (below_drewN (Below.refl _ _) _)) HN.out))))
      go_wp2_with fail
      go_ret
      exact ⟨rfl, below_drewN B0.out _⟩
set_option maxRecDepth 100000 in
set_option maxHeartbeats 2000000 in
theorem holds_yes (s : ByteArray) (d n : Int) (t : ByteArray) (f : Int) (tv : Value) (ts : List ByteArray) (w : World) (hv : StrsAt w tv ts) (hn : ts.length ≤ 9223372036854775807) (hA : amongB d n = true) (hF : amongB f n = true) (hS : shapedB ts n = true) (hs : s.size ≤ 1000) (ht : t.size ≤ 100000) (hT : Tabs w) :
    Calls Tryd.prog 27 #[.string s, .int .i64 d, .int .i64 n, .string t, .agg #[.int .i64 f, tv]] w fun e w' => e = .returned (.bool ((ts.getD d.toNat ⟨#[]⟩).toList == (tagB s f d t).toList)) ∧ Below w.heap.size w w' := by
  obtain ⟨n1, n7, t0, tn⟩ := among_of hA
  obtain ⟨_, _, f0, fn⟩ := among_of hF
  have hl : (ts.length : Int) = n := by
    simp only [shapedB, Bool.and_eq_true, decide_eq_true_eq] at hS; exact hS.1
  obtain ⟨k, rfl⟩ := Int.eq_ofNat_of_zero_le t0
  have hk : k < ts.length := by omega
  rw [Int.toNat_natCast]
  obtain ⟨u, hu⟩ : ∃ u, ts.getD k ⟨#[]⟩ = u := ⟨_, rfl⟩
  rw [hu]
  have HV := Lib.hid hv
  have HN := Lib.hid hn
  have HA := Lib.hid hA
  have HF := Lib.hid hF
  have HS := Lib.hid hS
  have HSS := Lib.hid hs
  have HTT := Lib.hid ht
  have HT := Lib.hid hT
  have HRK := Lib.hid (show (0 : Int) ≤ (k : Int) ∧ (k : Int) ≤ 20 by omega)
  have HRF := Lib.hid (show (0 : Int) ≤ f ∧ f ≤ 20 by omega)
  obtain ⟨a0, cap, rfl, hx⟩ := hv
  rcases hx with hx | ⟨gb, off, rfl, hbw, hcell⟩
  · rw [hx] at hk; simp at hk
  have hcl := hcell k hk
  rw [hu] at hcl
  have hk' : (k : Int) < (ts.length : Int) := by omega
  have hk0 : (0 : Int) ≤ (k : Int) := by omega
  have HL := Lib.hid hl
  clear hn hA hF hS hs ht hT hcell hu hl n1 n7 t0 tn f0 fn hk
  go_enter Tryd.func27, Tryd.ntmps27
  go_wp2_with fail
  have c0 := cell_new w #[.int .i64 f, .slice (some ⟨gb, off, none⟩) ts.length cap] 35 0 _ rfl
  have c1 := cell_new w #[.int .i64 f, .slice (some ⟨gb, off, none⟩) ts.length cap] 35 1 _ rfl
  have b0 : Below w.heap.size w (w.alloc (.cells #[.int .i64 f, .slice (some ⟨gb, off, none⟩) ts.length cap] 35)) := (Below.refl _ _).alloc (Nat.le_refl _) _
  have c2 := (b0.cell (p := ⟨gb, off + k, none⟩) hbw).trans hcl
  generalize w.alloc (.cells #[.int .i64 f, .slice (some ⟨gb, off, none⟩) ts.length cap] 35) = w0 at *
  have z0 := b0.size
  obtain ⟨g, hg⟩ : ∃ g, w.heap.size = g := ⟨_, rfl⟩
  rw [hg] at c0 c1 b0 z0 ⊢
  have HG := Lib.hid hg
  clear hg hbw hcl
  have hst : w0.drew.cell? ⟨g, 0, none⟩ = some (.int .i64 f) ∧ w0.drew.cell? ⟨g, 1, none⟩ = some (.slice (some ⟨gb, off, none⟩) ts.length cap) ∧ w0.drew.cell? ⟨gb, off + k, none⟩ = some (.string u) ∧ Below g w w0.drew ∧ g ≤ w0.drew.heap.size := ⟨c0, c1, c2, b0.drew, z0⟩
  go_region_held3 (fun w' => w'.cell? ⟨g, 0, none⟩ = some (.int .i64 f) ∧ w'.cell? ⟨g, 1, none⟩ = some (.slice (some ⟨gb, off, none⟩) ts.length cap) ∧ w'.cell? ⟨gb, off + k, none⟩ = some (.string u) ∧ Below g w w' ∧ g ≤ w'.heap.size)
    (first | exact hst | assumption | exact hk2)
    (first
      | (go_at_call 48; refine (among_is _ _ true (by first | exact HA.out | exact HF.out) _).mono ?_; rintro e w1 ⟨rfl, rfl⟩)
      | (go_at_call 49; refine (shaped_is ts _ _ true HS.out _ (strs_now HV.out HG.out (by assumption : _ ∧ _ ∧ _ ∧ Below g w _ ∧ _).2.2.2.1) HN.out).mono ?_; rintro e w1 ⟨rfl, rfl⟩)
      | (go_at_call 50; refine (mtag_in s f k t HRF.out HRK.out HSS.out HTT.out _ (tabs_now HT.out HG.out (by assumption : _ ∧ _ ∧ _ ∧ Below g w _ ∧ _).2.2.2.1)).mono ?_; rintro e w1 ⟨rfl, hb1⟩; have hk2 := keepH (w := w) (g := g) (b := gb) (i := off + k) (f := f) (tv := .slice (some ⟨gb, off, none⟩) ts.length cap) (u := u) (by assumption) hb1))
  go_wp2_with fail
  go_ret
  exact ⟨rfl, by rw [HG.out]; exact hk2.2.2.2.1⟩
theorem holds_any (s : ByteArray) (d n : Int) (t : ByteArray) (f : Int) (tv : Value) (ts : List ByteArray) (w : World) (hv : StrsAt w tv ts) (hn : ts.length ≤ 9223372036854775807) (hs : s.size ≤ 1000) (ht : t.size ≤ 100000) (hT : Tabs w) :
    Calls Tryd.prog 27 #[.string s, .int .i64 d, .int .i64 n, .string t, .agg #[.int .i64 f, tv]] w fun e w' => e = .returned (.bool (holdsB s d n t f ts)) ∧ Below w.heap.size w w' := by
  rcases hA : (amongB d n && (amongB f n && shapedB ts n)) with _ | _
  · have : holdsB s d n t f ts = false := by
      unfold holdsB
      rw [← Bool.and_assoc, ← Bool.and_assoc, show (amongB d n && amongB f n && shapedB ts n) = false by rw [← hA, Bool.and_assoc], Bool.false_and]
    rw [this]
    exact holds_no s d n t f tv ts w hv hn hA
  · simp only [Bool.and_eq_true] at hA
    have : holdsB s d n t f ts = ((ts.getD d.toNat ⟨#[]⟩).toList == (tagB s f d t).toList) := by unfold holdsB; rw [hA.1, hA.2.1, hA.2.2]; rfl
    rw [this]
    exact holds_yes s d n t f tv ts w hv hn hA.1 hA.2.1 hA.2.2 hs ht hT
end Go.Proofs.YtigoaokpodggcaaDoor
end
section
open Go Go.RowKit
namespace WW
def quorumI (n : Int) : Int := (if n < 1 then 1 else n) - faultsI n
def leaderI (v n : Int) : Int := if v < 0 ∨ n < 1 then 0 else v % n
theorem faultsI_le (n : Int) : 0 ≤ faultsI n ∧ faultsI n ≤ 3074457345618258603 ∨ 9223372036854775807 < n := by unfold faultsI; split <;> omega
theorem wf_i64 {n : Int} (h : (Lit.int .i64 n).wf = true) : -9223372036854775808 ≤ n ∧ n ≤ 9223372036854775807 := by
  simp [Lit.wf, IntKind.min, IntKind.max, IntKind.signed, IntKind.bits] at h
  omega
end WW
namespace Go.Proofs.YtigoaokpodggcaaDoor
open WW BB
set_option maxRecDepth 100000 in
theorem cfaults_any (n : Int) (h : n ≤ 9223372036854775807) (w : World) : Calls Tryd.prog 55 #[.int .i64 n] w fun e w' => e = .returned (.int .i64 (faultsI n)) ∧ w = w' := by
  by_cases h1 : n < 1
  · have E := Lib.hid (show faultsI n = 0 by unfold faultsI; rw [if_pos h1])
    have h2 : n ≤ 1 := by omega
    go_enter Tryd.func55, Tryd.ntmps55
    go_wp2_with fail
    go_ret
    exact ⟨by rw [E.out]; rfl, rfl⟩
  · have E := Lib.hid (show faultsI n = (n - 1) / 3 by unfold faultsI; rw [if_neg h1])
    have h2 : 0 ≤ n - 1 := by omega
    have h3 : n - 1 ≤ 9223372036854775806 := by omega
    have h4 : 1 ≤ n := by omega
    go_enter Tryd.func55, Tryd.ntmps55
    go_wp2_with fail
    go_ret
    exact ⟨by rw [E.out]; rfl, rfl⟩
theorem cfaults_is (n f : Int) (hf : faultsI n = f) (h : n ≤ 9223372036854775807) (w : World) : Calls Tryd.prog 55 #[.int .i64 n] w fun e w' => e = .returned (.int .i64 f) ∧ w = w' := hf ▸ cfaults_any n h w
theorem rfaults_is (n f : Int) (hf : faultsI n = f) (h : n ≤ 9223372036854775807) (w : World) : Calls Tryd.prog 20 #[.int .i64 n] w fun e w' => e = .returned (.int .i64 f) ∧ w = w' := hf ▸ rfaults_any n h w
set_option maxRecDepth 100000 in
theorem cquorum_any (n : Int) (h : n ≤ 9223372036854775807) (w : World) : Calls Tryd.prog 31 #[.int .i64 n] w fun e w' => e = .returned (.int .i64 (quorumI n)) ∧ w = w' := by
  obtain ⟨f, hf⟩ : ∃ f, faultsI n = f := ⟨_, rfl⟩
  have F := Lib.hid hf
  by_cases h1 : n < 1
  · have E := Lib.hid (show quorumI n = 1 - f by unfold quorumI; rw [if_pos h1, hf])
    have f0 : 0 = f := by rw [← hf]; unfold faultsI; rw [if_pos h1]
    have h2 : n ≤ 1 := by omega
    clear hf
    subst f0
    go_enter Tryd.func31, Tryd.ntmps31
    go_wp2_with fail
    refine (cfaults_is n 0 F.out h w).mono ?_
    rintro e w' ⟨rfl, rfl⟩
    go_wp2_with fail
    go_ret
    exact ⟨by rw [E.out]; rfl, rfl⟩
  · have E := Lib.hid (show quorumI n = n - f by unfold quorumI; rw [if_neg h1, hf])
    have f0 : 0 ≤ f ∧ f ≤ n := by rw [← hf]; unfold faultsI; rw [if_neg h1]; omega
    have f1 := f0.1
    have f2 := f0.2
    have f3 : 0 ≤ n - f := by omega
    have f4 : n - f ≤ 9223372036854775807 := by omega
    have h4 : 1 ≤ n := by omega
    clear hf f0
    go_enter Tryd.func31, Tryd.ntmps31
    go_wp2_with fail
    refine (cfaults_is n f F.out h w).mono ?_
    rintro e w' ⟨rfl, rfl⟩
    go_wp2_with fail
    go_ret
    exact ⟨by rw [E.out]; rfl, rfl⟩
end Go.Proofs.YtigoaokpodggcaaDoor
end
section
open Go Go.RowKit
namespace Go.Proofs.YtigoaokpodggcaaDoor
open WW BB Go.WideShapes Go.ChangeShapes Go.Deep
section
variable {H : Type} {enc : TypeId × Value → H} {W : World}
abbrev TrodW (enc : TypeId × Value → H) (W : World) (fuel : Nat) (t : TypeId) (cs : List Value) (x : DataW H × List MemPlace) : Prop := DataW.trod enc Tryd.prog W 0 (fun _ => true) true fuel t cs = some x
theorem len_max {n : Nat} (h : n ≤ maxLen) : n ≤ 9223372036854775807 := h
theorem cells_str : Tryd.prog.cellsOf 9 = 1 := by kernel_rfl
theorem cells_sig : Tryd.prog.cellsOf 35 = 2 := by kernel_rfl
set_option maxRecDepth 100000 in
theorem open_strs {fuel : Nat} {cs : List Value} {x : DataW H × List MemPlace} (h : TrodW enc W fuel 33 cs x) : ∃ sv l, cs = [sv] ∧ StrsAt W sv l ∧ l.length ≤ 9223372036854775807 := by
  rcases open_strings Tryd.underlying33 Tryd.underlying9 cells_str h with ⟨hcs, hx⟩ | ⟨a, len, cap, ss, hcs, _, hl, hm, hz, hx, hcell, hws⟩
  · exact ⟨_, [], hcs, ⟨none, 0, rfl, Or.inl rfl⟩, by simp⟩
  · simp only [if_true] at hz
    refine ⟨_, ss.take len, hcs, ⟨some a, cap, by rw [List.length_take_of_le (by omega)], ?_⟩, by rw [List.length_take_of_le (by omega)]; exact Nat.le_trans hl (len_max hm)⟩
    by_cases hl0 : len = 0
    · exact Or.inl (by subst hl0; rfl)
    · refine Or.inr ?_
      obtain ⟨b, off, spot⟩ := a
      have hspot : spot = none := by simpa [Addr.add] using World.cell?_spot (hcell 0 (by omega))
      subst hspot
      refine ⟨b, off, rfl, ?_, fun i hi => ?_⟩
      · have := hcell 0 (by omega)
        exact World.block_lt_of_cell? W _ this
      · rw [List.length_take_of_le (by omega)] at hi
        rw [← add_plain, hcell i (by omega)]
        simp only [List.getD_eq_getElem?_getD, List.getElem?_take_of_lt hi]
        rfl
set_option maxRecDepth 100000 in
theorem open_sig {fuel : Nat} {cs : List Value} {x : DataW H × List MemPlace} (h : TrodW enc W fuel 35 cs x) : ∃ f tv ts, cs = [.int .i64 f, tv] ∧ StrsAt W tv ts ∧ ts.length ≤ 9223372036854775807 := by
  obtain ⟨y0, y1, n, _, hl, h0, h1⟩ := trod_struct2 Tryd.underlying35 h
  rw [cells_sig] at hl
  match cs, hl with
  | [u0, u1], _ =>
    obtain ⟨f, hf, _⟩ := DataW.trod_int Tryd.underlying3 h0
    obtain ⟨tv, ts, htv, hts, hm⟩ := open_strs h1
    have e0 : [u0] = [.int .i64 f] := hf
    have e1 : [u1] = [tv] := htv
    simp only [List.cons.injEq, and_true] at e0 e1
    exact ⟨f, tv, ts, by rw [e0, e1], hts, hm⟩
end
end Go.Proofs.YtigoaokpodggcaaDoor
end
section
open Go Go.RowKit
namespace CC
/-- a signature as it stands in memory: its node, its tags' slice, its tags -/
abbrev Sg := Int × (Option Addr × Nat) × List ByteArray
/-- its tags, as a slice -/
def tvS (x : Sg) : Value := .slice x.2.1.1 x.2.2.length x.2.1.2
/-- a signature's cells -/
def encS (x : Sg) : List Value := [.int .i64 x.1, tvS x]
instance instSg : Inhabited Sg := ⟨(0, (none, 0), [])⟩
def s0 : Sg := (0, (none, 0), [])
def ltS (x y : Sg) : Bool := decide (x.1 < y.1)
theorem swo_ltS : Sort.SWO ltS := ⟨fun x => by simp [ltS], fun x y z h1 h2 => by simp [ltS] at *; omega, fun x y z h1 h2 => by simp [ltS] at *; omega⟩
/-- those of one node -/
def ofN (c : Int) (l : List Sg) : List Sg := l.filter fun x => decide (x.1 = c)
theorem ofN_swap (c : Int) : ∀ (l : List Sg) (j : Nat), j + 1 < l.length → (l.getD (j + 1) s0).1 ≠ (l.getD j s0).1 → ofN c ((l.set (j + 1) (l.getD j s0)).set j (l.getD (j + 1) s0)) = ofN c l
  | [], j, h, _ => by simp at h
  | [x], j, h, _ => by simp at h
  | x :: y :: r, 0, _, hne => by
    have hne : y.1 ≠ x.1 := by simpa [List.getD] using hne
    show ofN c (y :: x :: r) = ofN c (x :: y :: r)
    unfold ofN
    by_cases h1 : x.1 = c
    · have h2 : ¬ y.1 = c := fun h => hne (h.trans h1.symm)
      simp [h1, h2]
    · by_cases h2 : y.1 = c <;> simp [h1, h2]
  | x :: y :: r, j + 1, h, hne => by
    have ih := ofN_swap c (y :: r) j (by simpa using h) (by simpa [List.getD] using hne)
    have e : ((x :: y :: r).set (j + 1 + 1) ((x :: y :: r).getD (j + 1) s0)).set (j + 1) ((x :: y :: r).getD (j + 1 + 1) s0) = x :: (((y :: r).set (j + 1) ((y :: r).getD j s0)).set j ((y :: r).getD (j + 1) s0)) := by
      simp [List.getD]
    rw [e]
    unfold ofN at ih ⊢
    rw [List.filter_cons, List.filter_cons, ih]
theorem getBang (d : Array Sg) (i : Nat) : d[i]! = d.toList.getD i s0 := by
  rw [Array.getElem!_eq_getD, Array.getD_eq_getD_getElem?, List.getD_eq_getElem?_getD, Array.getElem?_toList]; rfl
theorem ofN_swp (c : Int) (d : Array Sg) (j : Nat) (h : j + 1 < d.size) (hl : ltS d[j + 1]! d[j]! = true) : ofN c (Sort.swp d (j + 1) j).toList = ofN c d.toList := by
  unfold Sort.swp
  rw [Array.toList_setIfInBounds, Array.toList_setIfInBounds, getBang, getBang]
  rw [getBang, getBang] at hl
  have hl : (d.toList.getD (j + 1) s0).1 < (d.toList.getD j s0).1 := by simpa [ltS] using hl
  exact ofN_swap c d.toList j (by simpa using h) (by omega)
theorem ofN_inner (c : Int) (a : Nat) : ∀ (j : Nat) (d : Array Sg), j < d.size → ofN c (Sort.insInner ltS a j d).toList = ofN c d.toList ∧ (Sort.insInner ltS a j d).size = d.size
  | 0, d, _ => by unfold Sort.insInner; exact ⟨rfl, rfl⟩
  | j + 1, d, h => by
    unfold Sort.insInner
    split
    · rename_i hc
      simp only [Bool.and_eq_true, decide_eq_true_eq] at hc
      have ih := ofN_inner c a j (Sort.swp d (j + 1) j) (by rw [Sort.swp_size]; omega)
      exact ⟨ih.1.trans (ofN_swp c d j h hc.2), ih.2.trans (Sort.swp_size _ _ _)⟩
    · exact ⟨rfl, rfl⟩
theorem ofN_outer (c : Int) (a b : Nat) : ∀ (n i : Nat) (d : Array Sg), b - i ≤ n → b ≤ d.size → ofN c (Sort.insOuter ltS a b i d).toList = ofN c d.toList
  | 0, i, d, hn, hb => by
    unfold Sort.insOuter
    rw [if_neg (by omega)]
  | n + 1, i, d, hn, hb => by
    unfold Sort.insOuter
    split
    · rename_i hi
      have h1 := ofN_inner c a i d (by omega)
      rw [ofN_outer c a b n (i + 1) _ (by omega) (by rw [h1.2]; exact hb)]
      exact h1.1
    · rfl
/-- the signatures, by nodes; of each node's as they stood -/
def srt (l : List Sg) : List Sg := (Sort.insertionSort ltS l.toArray 0 l.length).toList
theorem srt_ofN (c : Int) (l : List Sg) : ofN c (srt l) = ofN c l := by
  unfold srt Sort.insertionSort
  rw [ofN_outer c 0 l.length (l.length - 1) 1 l.toArray (Nat.le_refl _) (by simp)]
theorem srt_spec (l : List Sg) : (srt l).length = l.length ∧ (srt l).Pairwise (fun x y => x.1 ≤ y.1) := by
  obtain ⟨⟨h1, _, _⟩, h2⟩ := Sort.insertionSort_holds swo_ltS l.toArray 0 l.length (Nat.zero_le _) (by simp)
  have hs : (srt l).length = l.length := by unfold srt; rw [Array.length_toList, h1]; simp
  refine ⟨hs, ?_⟩
  rw [List.pairwise_iff_getElem]
  intro i j hi hj hij
  have := h2 i j (Nat.zero_le _) hij (by omega)
  have e : ∀ k (hk : k < (srt l).length), (Sort.insertionSort ltS l.toArray 0 l.length)[k]! = (srt l)[k] := fun k hk => by
    rw [getBang]; show (srt l).getD k s0 = _; rw [List.getD_eq_getElem?_getD, List.getElem?_eq_getElem hk]; rfl
  rw [e i hi, e j hj] at this
  have : ¬ ((srt l)[j].1 < (srt l)[i].1) := by simpa [ltS] using this
  omega
/-- the j-th is the first of its node (the one ahead is another's) -/
def kp (d : List Sg) (j : Nat) : Bool := decide (j = 0 ∨ (d.getD j s0).1 ≠ (d.getD (j - 1) s0).1)
/-- of the first m those that are the first of their node -/
def cmpt (d : List Sg) (m : Nat) : List Sg := ((List.range m).filter (kp d)).map fun j => d.getD j s0
theorem cmpt_succ (d : List Sg) (m : Nat) : cmpt d (m + 1) = cmpt d m ++ (if kp d m = true then [d.getD m s0] else []) := by
  unfold cmpt
  rw [List.range_succ, List.filter_append, List.map_append]
  congr 1
  by_cases h : kp d m = true <;> simp [h]
theorem cmpt_all (d : List Sg) (m : Nat) (hm : m ≤ d.length) (h : ∀ j, j < m → kp d j = true) : cmpt d m = d.take m := by
  unfold cmpt
  rw [List.filter_eq_self.2 (fun j hj => h j (List.mem_range.1 hj))]
  apply List.ext_getElem
  · simp; omega
  · intro i h1 h2
    have hi : i < d.length := by simp at h1; omega
    simp [List.getD, List.getElem?_eq_getElem hi]
theorem cmpt_le (d : List Sg) (m : Nat) : (cmpt d m).length ≤ m := by
  unfold cmpt
  have := List.length_filter_le (kp d) (List.range m)
  simp at this ⊢; omega
/-- the signatures of a certificate: of each node the first, by nodes -/
def mkL (l : List Sg) : List Sg := cmpt (srt l) l.length
/-- what is known of them -/
theorem cmpt_spec (d : List Sg) (hd : d.Pairwise (fun x y => x.1 ≤ y.1)) : ∀ m, m ≤ d.length →
    (cmpt d m).Pairwise (fun x y => x.1 < y.1) ∧ (∀ x ∈ cmpt d m, 0 < m ∧ x.1 ≤ (d.getD (m - 1) s0).1) ∧ (0 < m → ∃ x ∈ cmpt d m, x.1 = (d.getD (m - 1) s0).1) ∧ ∀ c, ofN c (cmpt d m) = (ofN c (d.take m)).take 1
  | 0, _ => by
    refine ⟨by simp [cmpt], by simp [cmpt], by simp, fun c => by simp [cmpt, ofN]⟩
  | m + 1, hm => by
    obtain ⟨h1, h2, h3, h4⟩ := cmpt_spec d hd m (by omega)
    have hlt : m < d.length := by omega
    obtain ⟨y, hy⟩ : ∃ y, d.getD m s0 = y := ⟨_, rfl⟩
    have hy' : d[m] = y := by rw [← hy]; simp [List.getD, List.getElem?_eq_getElem hlt]
    have htk : d.take (m + 1) = d.take m ++ [y] := by rw [List.take_succ_eq_append_getElem hlt, hy']
    have hof : ∀ c, ofN c (d.take (m + 1)) = ofN c (d.take m) ++ (if y.1 = c then [y] else []) := fun c => by
      rw [htk]; unfold ofN; rw [List.filter_append]; congr 1; by_cases h : y.1 = c <;> simp [h]
    have hprev : 0 < m → (d.getD (m - 1) s0).1 ≤ y.1 := fun h0 => by
      have := (List.pairwise_iff_getElem.1 hd) (m - 1) m (by omega) hlt (by omega)
      rw [hy'] at this
      simpa [List.getD, List.getElem?_eq_getElem (show m - 1 < d.length by omega)] using this
    rw [cmpt_succ, hy]
    by_cases hk : kp d m = true
    · rw [if_pos hk]
      have hnew : ∀ x ∈ cmpt d m, x.1 < y.1 := fun x hx => by
        obtain ⟨g0, g1⟩ := h2 x hx
        have g2 := hprev g0
        have : y.1 ≠ (d.getD (m - 1) s0).1 := by
          have hk := of_decide_eq_true hk
          rw [hy] at hk
          rcases hk with hk | hk
          · omega
          · exact hk
        omega
      refine ⟨?_, ?_, fun _ => ⟨y, by simp, by rw [Nat.add_sub_cancel, hy]⟩, fun c => ?_⟩
      · rw [List.pairwise_append]
        exact ⟨h1, by simp, fun a ha b hb => by
          obtain rfl : b = y := by simpa using hb
          exact hnew a ha⟩
      · intro x hx
        refine ⟨by omega, ?_⟩
        rw [Nat.add_sub_cancel, hy]
        rcases List.mem_append.1 hx with hx | hx
        · have := hnew x hx; omega
        · obtain rfl : x = y := by simpa using hx
          exact Int.le_refl _
      · have e : ofN c (cmpt d m ++ [y]) = ofN c (cmpt d m) ++ (if y.1 = c then [y] else []) := by
          unfold ofN; rw [List.filter_append]; congr 1; by_cases h : y.1 = c <;> simp [h]
        rw [e, hof, h4]
        by_cases hc : y.1 = c
        · have hno : ofN c (cmpt d m) = [] := by
            unfold ofN
            rw [List.filter_eq_nil_iff]
            intro x hx
            have := hnew x hx
            simp; omega
          have hno2 : ofN c (d.take m) = [] := by
            have := h4 c
            rw [hno] at this
            cases hz : ofN c (d.take m) with
            | nil => rfl
            | cons a r => rw [hz] at this; simp at this
          rw [hno2, if_pos hc]; rfl
        · rw [if_neg hc, List.append_nil, List.append_nil]
    · rw [if_neg hk, List.append_nil]
      have hk' : m ≠ 0 ∧ y.1 = (d.getD (m - 1) s0).1 := by
        have : ¬ (m = 0 ∨ (d.getD m s0).1 ≠ (d.getD (m - 1) s0).1) := fun h => hk (decide_eq_true h)
        rw [hy] at this
        exact ⟨fun h => this (Or.inl h), Classical.byContradiction fun h => this (Or.inr h)⟩
      refine ⟨h1, fun x hx => ?_, fun _ => ?_, fun c => ?_⟩
      · obtain ⟨g0, g1⟩ := h2 x hx
        refine ⟨by omega, ?_⟩
        rw [Nat.add_sub_cancel, hy]
        have := hprev g0; omega
      · obtain ⟨x, hx, he⟩ := h3 (by omega)
        exact ⟨x, hx, by rw [Nat.add_sub_cancel, hy, he, hk'.2]⟩
      · rw [hof, h4]
        by_cases hc : y.1 = c
        · rw [if_pos hc]
          obtain ⟨x, hx, he⟩ := h3 (by omega)
          have hmem : x ∈ ofN c (cmpt d m) := by unfold ofN; rw [List.mem_filter]; exact ⟨hx, by simp; rw [he, ← hk'.2, hc]⟩
          rw [h4] at hmem
          cases hz : ofN c (d.take m) with
          | nil => rw [hz] at hmem; simp at hmem
          | cons a r => simp
        · rw [if_neg hc, List.append_nil]
theorem mkL_spec (l : List Sg) : (mkL l).Pairwise (fun x y => x.1 < y.1) ∧ ∀ c, ofN c (mkL l) = (ofN c l).take 1 := by
  obtain ⟨h1, h2⟩ := srt_spec l
  obtain ⟨g1, _, _, g4⟩ := cmpt_spec (srt l) h2 l.length (by omega)
  refine ⟨g1, fun c => ?_⟩
  have := g4 c
  rw [show (srt l).take l.length = srt l by rw [← h1, List.take_length], srt_ofN] at this
  exact this
end CC
end
section
open Go Go.RowKit
namespace CC
open BB WW
def cmpI (x y : Int) : Int := if x < y then -1 else if y < x then 1 else 0
theorem ltOf_cmp : Go.Proofs.ltOf (fun x y : Sg => cmpI x.1 y.1) = ltS := by
  funext x y
  show decide ((if x.1 < y.1 then (-1 : Int) else if y.1 < x.1 then 1 else 0) < 0) = decide (x.1 < y.1)
  by_cases h1 : x.1 < y.1
  · rw [if_pos h1]; simp [h1]
  · rw [if_neg h1]
    by_cases h2 : y.1 < x.1
    · rw [if_pos h2]; simp [h1]
    · rw [if_neg h2]; simp [h1]
end CC
namespace Go.Proofs.YtigoaokpodggcaaDoor
open CC WW BB Go.Lib Go.Sort Go.Shelf
set_option maxRecDepth 100000 in
theorem isnan_any (x : Int) (w : World) : Calls Tryd.prog 57 #[.int .i64 x] w fun e w' => e = .returned (.bool false) ∧ w = w' := by
  have t0 : (x == x) = true := by simp
  go_enter Tryd.func57, Tryd.ntmps57
  go_wp2_with fail
  go_ret
  exact ⟨by simp, rfl⟩
set_option maxRecDepth 100000 in
set_option maxHeartbeats 1000000 in
theorem compare_any (x y : Int) (w : World) : Calls Tryd.prog 35 #[.int .i64 x, .int .i64 y] w fun e w' => e = .returned (.int .i64 (cmpI x y)) ∧ w = w' := by
  unfold cmpI
  by_cases h1 : x < y
  · rw [if_pos h1]
    go_enter Tryd.func35, Tryd.ntmps35
    go_wp2_with fail
    refine (isnan_any x w).mono ?_
    rintro e w' ⟨rfl, rfl⟩
    go_wp2_with fail
    refine (isnan_any y w).mono ?_
    rintro e w' ⟨rfl, rfl⟩
    go_wp2_with fail
    go_ret
    exact ⟨rfl, rfl⟩
  · rw [if_neg h1]
    by_cases h2 : y < x
    · rw [if_pos h2]
      go_enter Tryd.func35, Tryd.ntmps35
      go_wp2_with fail
      refine (isnan_any x w).mono ?_
      rintro e w' ⟨rfl, rfl⟩
      go_wp2_with fail
      refine (isnan_any y w).mono ?_
      rintro e w' ⟨rfl, rfl⟩
      go_wp2_with fail
      go_ret
      exact ⟨rfl, rfl⟩
    · rw [if_neg h2]
      go_enter Tryd.func35, Tryd.ntmps35
      go_wp2_with fail
      refine (isnan_any x w).mono ?_
      rintro e w' ⟨rfl, rfl⟩
      go_wp2_with fail
      refine (isnan_any y w).mono ?_
      rintro e w' ⟨rfl, rfl⟩
      go_wp2_with fail
      go_ret
      exact ⟨rfl, rfl⟩
set_option maxRecDepth 100000 in
set_option maxHeartbeats 1000000 in
theorem make1_any (f g : Int) (x y : Value) (W : World) : Calls Tryd.prog 34 #[.agg #[.int .i64 f, x], .agg #[.int .i64 g, y]] W fun e w' => e = .returned (.int .i64 (cmpI f g)) ∧ ∃ q os', w' = grow (W.drewN q) os' := by
  obtain ⟨r, hr⟩ : ∃ r, cmpI f g = r := ⟨_, rfl⟩
  have HR := Lib.hid hr
  rw [hr]
  clear hr
  go_enter Tryd.func34, Tryd.ntmps34
  go_wp2_with fail
  refine (compare_any f g _).mono ?_
  rintro e w' ⟨rfl, rfl⟩
  rw [HR.out]
  go_wp2_with fail
  go_ret
  exact ⟨rfl, 0, _, by rw [alloc_eq_grow, alloc_eq_grow, grow_grow]; rfl⟩
set_option maxRecDepth 100000 in
set_option maxHeartbeats 1000000 in
theorem make2_any (f g : Int) (x y : Value) (W : World) : Calls Tryd.prog 37 #[.agg #[.int .i64 f, x], .agg #[.int .i64 g, y]] W fun e w' => e = .returned (.bool (f == g)) ∧ Below W.heap.size W w' := by
  have b2 := Lib.hid (((Below.refl W.heap.size W).alloc (Nat.le_refl _) (.cells #[.int .i64 f, x] 35)).alloc (by simp) (.cells #[.int .i64 g, y] 35))
  obtain ⟨r, hr⟩ : ∃ r, (f == g) = r := ⟨_, rfl⟩
  rw [hr]
  go_enter Tryd.func37, Tryd.ntmps37
  go_wp2_with fail
  go_ret
  exact ⟨rfl, b2.out⟩
theorem cmpLays (blk off size : Nat) (w : World) : CmpLays Tryd.prog 34 #[] encS 2 (fun x y => cmpI x.1 y.1) blk off size w :=
  fun _ _ _ _ x y => make1_any x.1 y.1 (tvS x) (tvS y) _
end Go.Proofs.YtigoaokpodggcaaDoor
end
section
open Go Go.RowKit
namespace CC
open BB WW
theorem cset_same {w : World} {a : Addr} {u v : Value} (h : w.cell? a = some u) : (w.setCell a v).cell? a = some v := World.cell?_setCell_same (w := w) (a := a) (v := v) h
theorem cset_other {w : World} {a c : Addr} {v : Value} (h : a ≠ c) : (w.setCell a v).cell? c = w.cell? c := World.cell?_setCell_other (w := w) (a := a) (v := v) (b := c) h
/-- n signatures, D, in block b from cell o on; they may be written -/
structure SgRow (w : World) (b o n : Nat) (D : Nat → Sg) : Prop where
  lt : b < w.heap.size
  at0 : ∀ i, i < n → w.cell? ⟨b, o + i * 2, none⟩ = some (.int .i64 (D i).1)
  at1 : ∀ i, i < n → w.cell? ⟨b, o + i * 2 + 1, none⟩ = some (tvS (D i))
  f0 : ∀ i, i < n → w.frozen? ⟨b, o + i * 2, none⟩ = false
  f1 : ∀ i, i < n → w.frozen? ⟨b, o + i * 2 + 1, none⟩ = false
section
variable {w w' : World} {b o n : Nat} {D : Nat → Sg}
theorem SgRow.of_heap (h : SgRow w b o n D) (e : w'.heap[b]? = w.heap[b]?) : SgRow w' b o n D := by
  have hl : b < w'.heap.size := by
    rcases Nat.lt_or_ge b w'.heap.size with g | g
    · exact g
    · rw [Array.getElem?_eq_none g, Array.getElem?_eq_getElem h.lt] at e; cases e
  exact ⟨hl, fun i hi => (World.cell?_of_block (a := ⟨b, _, none⟩) e).trans (h.at0 i hi), fun i hi => (World.cell?_of_block (a := ⟨b, _, none⟩) e).trans (h.at1 i hi),
    fun i hi => (World.frozen?_of_block (a := ⟨b, _, none⟩) e).trans (h.f0 i hi), fun i hi => (World.frozen?_of_block (a := ⟨b, _, none⟩) e).trans (h.f1 i hi)⟩
theorem SgRow.keep {c : Nat} (h : SgRow w b o n D) (k : Keep c w w') (hc : b ≠ c) : SgRow w' b o n D := h.of_heap (k.block b h.lt hc)
theorem SgRow.below (h : SgRow w b o n D) (k : Below w.heap.size w w') : SgRow w' b o n D := h.of_heap (k.block b h.lt)
theorem SgRow.drew (h : SgRow w b o n D) (q : Nat) : SgRow (w.drewN q) b o n D := h.of_heap rfl
theorem SgRow.congr (h : SgRow w b o n D) (E : Nat → Sg) (e : ∀ i, i < n → D i = E i) : SgRow w b o n E :=
  ⟨h.lt, fun i hi => by rw [h.at0 i hi, e i hi], fun i hi => by rw [h.at1 i hi, e i hi], h.f0, h.f1⟩
theorem SgRow.sub (h : SgRow w b o n D) (m : Nat) (hm : m ≤ n) : SgRow w b o m D :=
  ⟨h.lt, fun i hi => h.at0 i (by omega), fun i hi => h.at1 i (by omega), fun i hi => h.f0 i (by omega), fun i hi => h.f1 i (by omega)⟩
theorem frozen_setCell (w : World) (a c : Addr) (v : Value) : (w.setCell a v).frozen? c = w.frozen? c := by
  unfold World.frozen? World.setCell
  simp only [Array.getElem?_modify]
  by_cases e : a.block = c.block
  · rw [if_pos e]
    rcases w.heap[c.block]? with _ | ob
    · rfl
    · cases ob <;> rfl
  · rw [if_neg e]
theorem SgRow.set1 (h : SgRow w b o n D) (i : Nat) (hi : i < n) (t : Option Addr × Nat) (ts : List ByteArray) : SgRow (w.setCell ⟨b, o + i * 2 + 1, none⟩ (.slice t.1 ts.length t.2)) b o n (put D i ((D i).1, t, ts)) := by
  refine ⟨by simpa [World.setCell] using h.lt, fun j hj => ?_, fun j hj => ?_, fun j hj => (frozen_setCell _ _ _ _).trans (h.f0 j hj), fun j hj => (frozen_setCell _ _ _ _).trans (h.f1 j hj)⟩
  · rw [cset_other (by intro e; injection e with _ e; omega), h.at0 j hj]
    unfold put; split
    · rename_i e; subst e; rfl
    · rfl
  · by_cases e : j = i
    · subst e
      rw [cset_same (h.at1 j hj), put_same]; rfl
    · rw [cset_other (by intro e'; injection e' with _ e'; omega), h.at1 j hj, put_other _ _ e]
theorem SgRow.set (h : SgRow w b o n D) (i : Nat) (hi : i < n) (x : Sg) : SgRow ((w.setCell ⟨b, o + i * 2, none⟩ (.int .i64 x.1)).setCell ⟨b, o + i * 2 + 1, none⟩ (tvS x)) b o n (put D i x) := by
  refine ⟨by simpa [World.setCell] using h.lt, fun j hj => ?_, fun j hj => ?_, fun j hj => ?_, fun j hj => ?_⟩
  · rw [cset_other (by intro e; injection e with _ e; omega)]
    by_cases e : j = i
    · subst e
      rw [cset_same (h.at0 j hj), put_same]
    · rw [cset_other (by intro e'; injection e' with _ e'; omega), h.at0 j hj, put_other _ _ e]
  · by_cases e : j = i
    · subst e
      rw [cset_same (u := tvS (D j)) (by rw [cset_other (by intro e'; injection e' with _ e'; omega)]; exact h.at1 j hj), put_same]
    · rw [cset_other (by intro e'; injection e' with _ e'; omega), cset_other (by intro e'; injection e' with _ e'; omega), h.at1 j hj, put_other _ _ e]
  · rw [frozen_setCell, frozen_setCell]; exact h.f0 j hj
  · rw [frozen_setCell, frozen_setCell]; exact h.f1 j hj
theorem keep_set (w : World) (b o : Nat) (u : Value) : Keep b w (w.setCell ⟨b, o, none⟩ u) := (Upd.set w b o u).keep
theorem keep_drew (w : World) (b q : Nat) : Keep b w (w.drewN q) := ⟨Nat.le_refl _, fun _ _ _ => rfl, rfl, rfl, rfl⟩
end
open Go.Sort Go.Proofs
theorem row_of_holds {w : World} {b o : Nat} {d : Array Sg} (h : HoldsK encS 2 w b o d) (hl : b < w.heap.size) : SgRow w b o d.size (fun i => d[i]!) := by
  refine ⟨hl, fun i hi => ?_, fun i hi => ?_, fun i hi => ?_, fun i hi => ?_⟩
  · exact (h.cell (c := 0) hi (by omega)).1
  · exact (h.cell (c := 1) hi (by omega)).1
  · exact (h.cell (c := 0) hi (by omega)).2
  · exact (h.cell (c := 1) hi (by omega)).2
theorem holds_of_row {w : World} {b o : Nat} {d : Array Sg} (h : SgRow w b o d.size (fun i => d[i]!)) : HoldsK encS 2 w b o d := by
  intro t ht
  have ht' : t < d.size * 2 := by simpa using ht
  rw [get_flatK _ _ _ _ ht']
  have hq : t / 2 < d.size := by omega
  rcases Nat.mod_two_eq_zero_or_one t with e | e
  · have e2 : o + t = o + t / 2 * 2 := by omega
    rw [e, e2]
    exact ⟨h.at0 _ hq, h.f0 _ hq⟩
  · have e2 : o + t = o + t / 2 * 2 + 1 := by omega
    rw [e, e2]
    exact ⟨h.at1 _ hq, h.f1 _ hq⟩
theorem keep_sort {w : World} {b o m : Nat} {d : Array Sg} {os : Array Obj} : Keep b w (sortWorldK encS 2 w b o m d os) := by
  refine ⟨?_, fun k hk hb => ?_, rfl, rfl, rfl⟩
  · simp [sortWorldK, grow, putRowK, putRow, mapBlock, Sort.ahead]
  · unfold sortWorldK
    rw [heap_grow_old _ _ (by simpa [putRowK, putRow, mapBlock, Sort.ahead] using hk)]
    have : b ≠ k := fun e => hb e.symm
    simp [putRowK, putRow, mapBlock, Sort.ahead, Array.getElem?_modify, this]
theorem row_sort {w : World} {b o m : Nat} {d dk : Array Sg} {os : Array Obj} (h : SgRow w b o d.size (fun i => d[i]!)) (hs : dk.size = d.size) : SgRow (sortWorldK encS 2 w b o m dk os) b o dk.size (fun i => dk[i]!) :=
  row_of_holds (holdsK_sortWorldK_c encS 2 w b o d dk m os (holds_of_row h) h.lt hs) (Nat.lt_of_lt_of_le h.lt (size_sortWorldK_c encS 2 w b o m dk os))
end CC
end
