/-
  The listed tables, as cells; the last step of a row whose call leaves the old memory as it was.
-/
import Derived.Test.YtigoaokpodggcaaDoorKMKey
import Derived.Test.YtigoaokpodggcaaDoorKLOpen
import Derived.BigQuiet
import Derived.WalkSmall
import Derived.Deep.QuietTactic
import Derived.Deep.RegionHeld3
import Derived.Test.YtigoaokpodggcaaDoorKWNumCut
import Derived.Test.YtigoaokpodggcaaDoorRows
import Derived.Test.YtigoaokpodggcaaDoorChecked
import Derived.SliceStrings
import Derived.Lib.SmallJoins
import Derived.Deep.Slices
import Derived.Deep.Strs
import Derived.Test.YtigoaokpodggcaaDoorKMixed
import Derived.ProofKit
import Derived.LaidMore
import Derived.OpenShut
import Derived.Lib.LaidTab
import Derived.ChangeSame
section
open Go Go.RowKit
namespace CC
open MM WW BB
/-- a vote's text -/
def textB (v : Int) (k : ByteArray) : ByteArray := ⟨#[86]⟩ ++ num v ++ k
theorem textB_size (v : Int) (k : ByteArray) : (textB v k).size = 5 + k.size := by
  have h1 : (⟨#[86]⟩ : ByteArray).size = 1 := rfl
  simp only [textB, ByteArray.size_append, num_size, h1]
/-- the first block's digest -/
def firstD : ByteArray := dg ⟨#[102, 105, 114, 115, 116]⟩
theorem firstD_size : firstD.size = 32 := dsize _
/-- the cells of a certificate -/
def cC (v : Value) (k : ByteArray) (s : Value) : Nat → Value := fun i => if i = 0 then v else if i = 1 then .string k else s
theorem cC_row (v : Value) (k : ByteArray) (s : Value) : #[v, .string k, s] = row 3 (cC v k s) := by rfl
end CC
namespace Go.Proofs.YtigoaokpodggcaaDoor
open CC MM WW BB
set_option maxRecDepth 100000 in
set_option maxHeartbeats 1000000 in
theorem text5_any (v : Int) (k : ByteArray) (hk : k.size ≤ 1000000) (w : World) :
    Calls Tryd.prog 24 #[.int .i64 v, .string k] w fun e w' => e = .returned (.string (textB v k)) ∧ Below w.heap.size w w' := by
  have h1 : ¬ 9223372036854775807 < (⟨#[86]⟩ : ByteArray).size + (num v).size := by rw [num_size, show (⟨#[86]⟩ : ByteArray).size = 1 from rfl]; omega
  have h2 : ¬ 9223372036854775807 < ((⟨#[86]⟩ : ByteArray) ++ num v).size + k.size := by rw [ByteArray.size_append, num_size, show (⟨#[86]⟩ : ByteArray).size = 1 from rfl]; omega
  clear hk
  go_enter Tryd.func24, Tryd.ntmps24
  go_wp2_with fail
  refine (number_any _ _).mono ?_
  rintro e w1 ⟨rfl, hb1⟩
  go_wp2_with fail
  go_ret
  exact ⟨rfl, hb1⟩
set_option maxRecDepth 100000 in
set_option maxHeartbeats 1000000 in
theorem rtext5_any (v : Int) (k : ByteArray) (hk : k.size ≤ 1000000) (w : World) :
    Calls Tryd.prog 25 #[.int .i64 v, .string k] w fun e w' => e = .returned (.string (textB v k)) ∧ Below w.heap.size w w' := by
  have h1 : ¬ 9223372036854775807 < (⟨#[86]⟩ : ByteArray).size + (num v).size := by rw [num_size, show (⟨#[86]⟩ : ByteArray).size = 1 from rfl]; omega
  have h2 : ¬ 9223372036854775807 < ((⟨#[86]⟩ : ByteArray) ++ num v).size + k.size := by rw [ByteArray.size_append, num_size, show (⟨#[86]⟩ : ByteArray).size = 1 from rfl]; omega
  clear hk
  go_enter Tryd.func25, Tryd.ntmps25
  go_wp2_with fail
  refine (rnumber_any _ _).mono ?_
  rintro e w1 ⟨rfl, hb1⟩
  go_wp2_with fail
  go_ret
  exact ⟨rfl, hb1⟩
set_option maxRecDepth 100000 in
set_option maxHeartbeats 1000000 in
theorem rfirst_any (w : World) : Calls Tryd.prog 23 #[] w fun e w' => e = .returned (.string firstD) ∧ Below w.heap.size w w' := by
  go_enter Tryd.func23, Tryd.ntmps23
  go_wp2_with fail
  refine (rsum_dg _ (by decide) _).mono ?_
  rintro e w1 ⟨rfl, hb1⟩
  go_wp2_with fail
  go_ret
  exact ⟨rfl, hb1⟩
set_option maxRecDepth 100000 in
set_option maxHeartbeats 1000000 in
theorem first_any (w : World) (hT : Tabs w) : Calls Tryd.prog 22 #[] w fun e w' => e = .returned (.agg #[.int .i64 0, .string firstD, .slice none 0 0]) ∧ Below w.heap.size w w' := by
  have HT := Lib.hid hT
  clear hT
  go_enter Tryd.func22, Tryd.ntmps22
  go_wp2_with fail
  obtain ⟨a, ha⟩ : ∃ a, w.heap.size = a := ⟨_, rfl⟩
  have k0 : Blk (w.alloc (.cells #[.int .i64 0, .string ⟨#[]⟩, .slice none 0 0] 24)) a 3 (cC (.int .i64 0) ⟨#[]⟩ (.slice none 0 0)) := Blk.new' ha.symm (cC_row _ _ _)
  have b0 := (Below.refl w.heap.size w).alloc (Nat.le_refl _) (.cells #[.int .i64 0, .string ⟨#[]⟩, .slice none 0 0] 24)
  have HT1 := Lib.hid (HT.out.below b0 (Nat.le_refl _))
  rw [ha] at b0 ⊢
  have HAA := Lib.hid ha
  clear ha
  generalize w.alloc (.cells #[.int .i64 0, .string ⟨#[]⟩, .slice none 0 0] 24) = w1 at *
  refine (sum_any ⟨#[102, 105, 114, 115, 116]⟩ (by decide) w1 HT1.out).mono ?_
  rintro e w2 ⟨rfl, hb2⟩
  have B2 := Lib.hid (b0.trans (hb2.mono (Nat.le_of_lt k0.lt)))
  have K2 := Lib.hid (k0.below hb2 k0.lt)
  clear b0 k0 hb2
  have c0 : w2.cell? ⟨a, 0, none⟩ = some (.int .i64 0) := K2.out.get 0 (by omega)
  have g0 := K2.out.frz 0
  have c1 : w2.cell? ⟨a, 1, none⟩ = some (.string ⟨#[]⟩) := K2.out.get 1 (by omega)
  have g1 := K2.out.frz 1
  have c2 : w2.cell? ⟨a, 2, none⟩ = some (.slice none 0 0) := K2.out.get 2 (by omega)
  have g2 := K2.out.frz 2
  go_wp2_with fail
  have k3 := ((K2.out.set 0 (.int .i64 0)).set 1 (.string firstD)).set 2 (.slice none 0 0)
  have q0 := k3.get 0 (by omega)
  have q1 := k3.get 1 (by omega)
  have q2 := k3.get 2 (by omega)
  rw [show put (put (put (cC (.int .i64 0) ⟨#[]⟩ (.slice none 0 0)) 0 (.int .i64 0)) 1 (.string firstD)) 2 (.slice none 0 0) 0 = .int .i64 0 from rfl] at q0
  rw [show put (put (put (cC (.int .i64 0) ⟨#[]⟩ (.slice none 0 0)) 0 (.int .i64 0)) 1 (.string firstD)) 2 (.slice none 0 0) 1 = .string firstD from rfl] at q1
  rw [show put (put (put (cC (.int .i64 0) ⟨#[]⟩ (.slice none 0 0)) 0 (.int .i64 0)) 1 (.string firstD)) 2 (.slice none 0 0) 2 = .slice none 0 0 from rfl] at q2
  unfold firstD at q0 q1 q2 ⊢
  refine bodyPost_ret (v := .agg #[.int .i64 0, .string (dg ⟨#[102, 105, 114, 115, 116]⟩), .slice none 0 0]) (by simp [results, Tryd.results22, go_sem, q0, q1, q2]) rfl ⟨rfl, ?_⟩
  rw [HAA.out]
  exact B2.out.trans ((((Upd.set _ _ _ _).trans (Upd.set _ _ _ _)).trans (Upd.set _ _ _ _)).below (Nat.le_refl _))
end Go.Proofs.YtigoaokpodggcaaDoor
end
section
open Go Go.RowKit
namespace MM
open WW BB
/-- may there be n nodes? -/
def nodesB (n : Int) : Bool := decide (1 ≤ n) && decide (n ≤ 7)
/-- are there n nodes, and is this one of them? -/
def amongB (x n : Int) : Bool := nodesB n && (decide (0 ≤ x) && decide (x < n))
/-- a tag for each, of a tag's size -/
def shapedB (ts : List ByteArray) (n : Int) : Bool := decide ((ts.length : Int) = n) && ts.all (fun t => decide (t.size = 16))
/-- the signature holds -/
def holdsB (s : ByteArray) (d n : Int) (t : ByteArray) (f : Int) (ts : List ByteArray) : Bool :=
  amongB d n && (amongB f n && (shapedB ts n && ((ts.getD d.toNat ⟨#[]⟩).toList == (tagB s f d t).toList)))
theorem among_of {x n : Int} (h : amongB x n = true) : 1 ≤ n ∧ n ≤ 7 ∧ 0 ≤ x ∧ x < n := by
  simp only [amongB, nodesB, Bool.and_eq_true, decide_eq_true_eq] at h; omega
theorem among_mk {x n : Int} (h1 : 1 ≤ n) (h2 : n ≤ 7) (h3 : 0 ≤ x) (h4 : x < n) : amongB x n = true := by
  simp only [amongB, nodesB, Bool.and_eq_true, decide_eq_true_eq]; omega
/-- the box of a signature, and the tag of one node -/
def HoldsAt (w : World) (g : Nat) (f : Int) (tv : Value) (b i : Nat) (u : ByteArray) (w' : World) : Prop :=
  w'.cell? ⟨g, 0, none⟩ = some (.int .i64 f) ∧ w'.cell? ⟨g, 1, none⟩ = some tv ∧ w'.cell? ⟨b, i, none⟩ = some (.string u) ∧ Below g w w' ∧ g ≤ w'.heap.size
section
variable {w w' w2 : World} {g b i : Nat} {f : Int} {tv : Value} {u : ByteArray} {ts : List ByteArray}
theorem keepH (h : w'.cell? ⟨g, 0, none⟩ = some (.int .i64 f) ∧ w'.cell? ⟨g, 1, none⟩ = some tv ∧ w'.cell? ⟨b, i, none⟩ = some (.string u) ∧ Below g w w' ∧ g ≤ w'.heap.size) (hb : Below w'.heap.size w' w2) :
    w2.cell? ⟨g, 0, none⟩ = some (.int .i64 f) ∧ w2.cell? ⟨g, 1, none⟩ = some tv ∧ w2.cell? ⟨b, i, none⟩ = some (.string u) ∧ Below g w w2 ∧ g ≤ w2.heap.size := by
  have hl := World.block_lt_of_cell? w' _ h.1
  have hl2 := World.block_lt_of_cell? w' _ h.2.2.1
  exact ⟨(hb.cell (p := ⟨g, 0, none⟩) hl).trans h.1, (hb.cell (p := ⟨g, 1, none⟩) hl).trans h.2.1, (hb.cell (p := ⟨b, i, none⟩) hl2).trans h.2.2.1, h.2.2.2.1.trans (hb.mono h.2.2.2.2), Nat.le_trans h.2.2.2.2 hb.size⟩
theorem strs_now (hV : StrsAt w tv ts) (hg : w.heap.size = g) (h : Below g w w') : StrsAt w' tv ts := hV.later (by rw [hg]; exact h)
end
end MM
namespace Go.Proofs.YtigoaokpodggcaaDoor
open MM WW BB
theorem tabs_now {w w' : World} {g : Nat} (h : Tabs w) (hg : w.heap.size = g) (hb : Below g w w') : Tabs w' := h.below hb (by rw [hg]; exact Nat.le_refl _)
set_option maxRecDepth 100000 in
theorem nodes_any (n : Int) (w : World) : Calls Tryd.prog 66 #[.int .i64 n] w fun e w' => e = .returned (.bool (nodesB n)) ∧ w = w' := by
  by_cases h1 : 1 ≤ n
  · by_cases h2 : n ≤ 7
    · have e : nodesB n = true := by simp [nodesB, h1, h2]
      rw [e]; clear e
      go_enter Tryd.func66, Tryd.ntmps66
      go_wp2_with fail
      go_ret
      exact ⟨rfl, rfl⟩
    · have e : nodesB n = false := by simp [nodesB, h2]
      rw [e]; clear e
      go_enter Tryd.func66, Tryd.ntmps66
      go_wp2_with fail
      go_ret
      exact ⟨rfl, rfl⟩
  · have e : nodesB n = false := by simp [nodesB, h1]
    rw [e]; clear e
    go_enter Tryd.func66, Tryd.ntmps66
    go_wp2_with fail
    go_ret
    exact ⟨rfl, rfl⟩
set_option maxRecDepth 100000 in
theorem among_any (x n : Int) (w : World) : Calls Tryd.prog 48 #[.int .i64 x, .int .i64 n] w fun e w' => e = .returned (.bool (amongB x n)) ∧ w = w' := by
  obtain ⟨nb, hnb⟩ : ∃ nb, nodesB n = nb := ⟨_, rfl⟩
  have HN := Lib.hid hnb
  unfold amongB
  rw [hnb]
  clear hnb
  cases nb with
  | false =>
    go_enter Tryd.func48, Tryd.ntmps48
    go_wp2_with fail
    refine (nodes_any n w).mono ?_
    rintro e w' ⟨rfl, rfl⟩
    rw [HN.out]
    go_wp2_with fail
    go_ret
    exact ⟨rfl, rfl⟩
  | true =>
    by_cases h1 : 0 ≤ x
    · by_cases h2 : x < n
      · have e : (true && (decide (0 ≤ x) && decide (x < n))) = true := by simp [h1, h2]
        rw [e]; clear e
        go_enter Tryd.func48, Tryd.ntmps48
        go_wp2_with fail
        refine (nodes_any n w).mono ?_
        rintro e w' ⟨rfl, rfl⟩
        rw [HN.out]
        go_wp2_with fail
        go_ret
        exact ⟨rfl, rfl⟩
      · have e : (true && (decide (0 ≤ x) && decide (x < n))) = false := by simp [h2]
        have t2 : decide (x < n) = false := by simpa using h2
        rw [e]; clear e
        go_enter Tryd.func48, Tryd.ntmps48
        go_wp2_with fail
        refine (nodes_any n w).mono ?_
        rintro e w' ⟨rfl, rfl⟩
        rw [HN.out]
        go_wp2_with fail
        go_ret
        exact ⟨rfl, rfl⟩
    · have e : (true && (decide (0 ≤ x) && decide (x < n))) = false := by simp [h1]
      have t2 : decide (0 ≤ x) = false := by simpa using h1
      rw [e]; clear e
      go_enter Tryd.func48, Tryd.ntmps48
      go_wp2_with fail
      refine (nodes_any n w).mono ?_
      rintro e w' ⟨rfl, rfl⟩
      rw [HN.out]
      go_wp2_with fail
      go_ret
      exact ⟨rfl, rfl⟩
theorem among_is (x n : Int) (b : Bool) (h : amongB x n = b) (w : World) : Calls Tryd.prog 48 #[.int .i64 x, .int .i64 n] w fun e w' => e = .returned (.bool b) ∧ w = w' := by subst h; exact among_any x n w
theorem among_q (x n : Int) (b : Bool) (h : amongB x n = b) (w : World) : Calls Tryd.prog 48 #[.int .i64 x, .int .i64 n] w fun e w' => e = .returned (.bool b) ∧ w' = w := (among_is x n b h w).mono fun _ _ ⟨h1, h2⟩ => ⟨h1, h2.symm⟩
set_option maxRecDepth 100000 in
set_option maxHeartbeats 1000000 in
theorem shaped_any (ts : List ByteArray) (v : Value) (n : Int) (w : World) (hv : StrsAt w v ts) (hn : ts.length ≤ 9223372036854775807) :
    Calls Tryd.prog 49 #[v, .int .i64 n] w fun e w' => e = .returned (.bool (shapedB ts n)) ∧ w = w' := by
  have HV := Lib.hid hv
  have HN := Lib.hid hn
  obtain ⟨a0, cap, rfl, hx⟩ := hv
  clear hn hx
  by_cases hl : (ts.length : Int) = n
  · subst hl
    have E1 : Hid (shapedB ts (ts.length : Int) = ts.all (fun t => decide (t.size = 16))) := Lib.hid (by simp [shapedB])
    go_enter Tryd.func49, Tryd.ntmps49
    go_wp2_with fail
    go_loop [13] (fun v => ∃ i : Nat, i ≤ ts.length ∧ v = .int .i64 (i : Int) ∧ (ts.take i).all (fun t => decide (t.size = 16)) = true) (fun v => ts.length - (intOf v).toNat)
    case atStart => exact ⟨0, Nat.zero_le _, rfl, rfl⟩
    case round =>
      obtain ⟨i, hi, rfl, hall⟩ := hrel
      have HALL := Lib.hid hall
      have i0 : (0 : Int) ≤ (i : Int) := by omega
      have ib : (i : Int) ≤ 9223372036854775807 := by have := HN.out; omega
      clear hall
      by_cases hlt : i < ts.length
      · have hlt' : (i : Int) < (ts.length : Int) := by omega
        have ib1 : (i : Int) + 1 ≤ 9223372036854775807 := by have := HN.out; omega
        obtain ⟨a1, cap1, he, hv | ⟨gb, off, rfl, hbw, hcell⟩⟩ := HV.out
        · rw [hv] at hlt; simp at hlt
        injection he with e1 _ e3
        subst e1 e3
        have hcl := hcell i hlt
        have HSN : Hid ((ts.take (i + 1)).all (fun t => decide (t.size = 16)) = ((ts.take i).all (fun t => decide (t.size = 16)) && decide ((ts.getD i ⟨#[]⟩).size = 16))) := Lib.hid (by
          rw [List.take_succ_eq_append_getElem hlt, List.all_append]
          simp [List.getD, List.getElem?_eq_getElem hlt])
        obtain ⟨s, hs⟩ : ∃ s, ts.getD i ⟨#[]⟩ = s := ⟨_, rfl⟩
        rw [hs] at hcl
        have HSN' := HSN.out
        rw [hs] at HSN'
        have HSN := Lib.hid HSN'
        have HLT := Lib.hid hlt
        clear HSN' hs hlt hi hcell hbw
        by_cases h16 : s.size = 16
        · have t1 : ((s.size : Int) != 16) = false := by rw [h16]; rfl
          have H16 := Lib.hid h16
          clear h16
          go_wp2_with fail
          go_round
          case rel => exact ⟨i + 1, by have := HLT.out; omega, by go_num, by rw [HSN.out, HALL.out]; simpa using H16.out⟩
          case measure => have := HLT.out; simp [intOf]; omega
        · have t1 : ((s.size : Int) != 16) = true := by rw [bne_iff_ne]; omega
          have H16 := Lib.hid h16
          clear h16
          go_wp2_with fail
          go_ret
          refine ⟨?_, rfl⟩
          have hf : (ts.take (i + 1)).all (fun t => decide (t.size = 16)) = false := by rw [HSN.out, HALL.out]; simpa using H16.out
          have : ts.all (fun t => decide (t.size = 16)) = false := by
            rw [List.all_eq_false] at hf ⊢
            obtain ⟨x, hx, hp⟩ := hf
            exact ⟨x, List.mem_of_mem_take hx, hp⟩
          rw [E1.out, this]; rfl
      · obtain rfl : i = ts.length := by omega
        have hlt' : ¬ (ts.length : Int) < (ts.length : Int) := by omega
        clear hi hlt
        go_wp2_with fail
        go_ret
        refine ⟨?_, rfl⟩
        have := HALL.out
        rw [List.take_length] at this
        rw [E1.out, this]; rfl
  · have E1 : Hid (shapedB ts n = false) := Lib.hid (by simp [shapedB, hl])
    have t1 : ((ts.length : Int) != n) = true := by rw [bne_iff_ne]; exact hl
    clear hl
    go_enter Tryd.func49, Tryd.ntmps49
    go_wp2_with fail
    go_ret
    exact ⟨by rw [E1.out]; rfl, rfl⟩
theorem shaped_is (ts : List ByteArray) (v : Value) (n : Int) (b : Bool) (h : shapedB ts n = b) (w : World) (hv : StrsAt w v ts) (hn : ts.length ≤ 9223372036854775807) :
    Calls Tryd.prog 49 #[v, .int .i64 n] w fun e w' => e = .returned (.bool b) ∧ w = w' := by subst h; exact shaped_any ts v n w hv hn
theorem shaped_q (ts : List ByteArray) (v : Value) (n : Int) (b : Bool) (h : shapedB ts n = b) (w : World) (hv : StrsAt w v ts) (hn : ts.length ≤ 9223372036854775807) :
    Calls Tryd.prog 49 #[v, .int .i64 n] w fun e w' => e = .returned (.bool b) ∧ w' = w := (shaped_is ts v n b h w hv hn).mono fun _ _ ⟨h1, h2⟩ => ⟨h1, h2.symm⟩
theorem mtag_in (s : ByteArray) (a b : Int) (t : ByteArray) (ha : 0 ≤ a ∧ a ≤ 20) (hb : 0 ≤ b ∧ b ≤ 20) (hs : s.size ≤ 1000) (ht : t.size ≤ 100000) (w : World) (hT : Tabs w) :
    Calls Tryd.prog 50 #[.string s, .int .i64 a, .int .i64 b, .string t] w fun e w' => e = .returned (.string (tagB s a b t)) ∧ Below w.heap.size w w' := by
  have := mtag_any s a b t hs ht w hT
  rwa [endn_id a ha.1 ha.2, endn_id b hb.1 hb.2] at this
set_option maxRecDepth 100000 in
set_option maxHeartbeats 2000000 in
theorem holds_no (s : ByteArray) (d n : Int) (t : ByteArray) (f : Int) (tv : Value) (ts : List ByteArray) (w : World) (hv : StrsAt w tv ts) (hn : ts.length ≤ 9223372036854775807) (hb : (amongB d n && (amongB f n && shapedB ts n)) = false) :
    Calls Tryd.prog 27 #[.string s, .int .i64 d, .int .i64 n, .string t, .agg #[.int .i64 f, tv]] w fun e w' => e = .returned (.bool false) ∧ Below w.heap.size w w' := by
  have HV := Lib.hid hv
  have HN := Lib.hid hn
  have HB := Lib.hid hb
  obtain ⟨a0, cap, rfl, hx⟩ := hv
  have HVA := Lib.hid (HV.out.later ((Below.refl w.heap.size w).alloc (Nat.le_refl _) (.cells #[.int .i64 f, .slice a0 ts.length cap] 35)))
  clear hn hx hb
  rcases hA : amongB d n with _ | _
  · have HA := Lib.hid hA
    clear hA
    go_enter Tryd.func27, Tryd.ntmps27
    go_wp2_with fail
    have b0 : Below w.heap.size w (w.alloc (.cells #[.int .i64 f, .slice a0 ts.length cap] 35)) := (Below.refl _ _).alloc (Nat.le_refl _) _
    generalize w.alloc (.cells #[.int .i64 f, .slice a0 ts.length cap] 35) = w0 at *
    have B0 := Lib.hid b0
    clear b0
    go_quiet ((go_at_call 48; exact Calls.quiet_of_same (among_q d n false HA.out _)))
    go_wp2_with fail
    go_ret
    exact ⟨rfl, below_drewN B0.out _⟩
  · have HA := Lib.hid hA
    rcases hF : amongB f n with _ | _
    · have HF := Lib.hid hF
      clear hA hF
      go_enter Tryd.func27, Tryd.ntmps27
      go_wp2_with fail
      have c0 := cell_new w #[.int .i64 f, .slice a0 ts.length cap] 35 0 _ rfl
      have b0 : Below w.heap.size w (w.alloc (.cells #[.int .i64 f, .slice a0 ts.length cap] 35)) := (Below.refl _ _).alloc (Nat.le_refl _) _
      generalize w.alloc (.cells #[.int .i64 f, .slice a0 ts.length cap] 35) = w0 at *
      have B0 := Lib.hid b0
      clear b0
      go_quiet ((go_at_call 48; exact Calls.quiet_of_same (among_q _ _ _ (by first | exact HA.out | exact HF.out) _)))
      go_wp2_with fail
      go_ret
      exact ⟨rfl, below_drewN B0.out _⟩
    · have HF := Lib.hid hF
      have HSH : Hid (shapedB ts n = false) := Lib.hid (by have := HB.out; rw [hA, hF] at this; simpa using this)
      clear hA hF
      go_enter Tryd.func27, Tryd.ntmps27
      go_wp2_with fail
      have c0 := cell_new w #[.int .i64 f, .slice a0 ts.length cap] 35 0 _ rfl
      have c1 := cell_new w #[.int .i64 f, .slice a0 ts.length cap] 35 1 _ rfl
      have b0 : Below w.heap.size w (w.alloc (.cells #[.int .i64 f, .slice a0 ts.length cap] 35)) := (Below.refl _ _).alloc (Nat.le_refl _) _
      generalize w.alloc (.cells #[.int .i64 f, .slice a0 ts.length cap] 35) = w0 at *
      have B0 := Lib.hid b0
      clear b0
      go_quiet ((first
        | (go_at_call 48; exact Calls.quiet_of_same (among_q _ _ true (by first | exact HA.out | exact HF.out) _))
        | (go_at_call 49; exact Calls.quiet_of_same (shaped_q ts _ n false HSH.out _ (HVA.out.later (below_drewN (Below.refl _ _) _)) HN.out))))
      go_wp2_with fail
      go_ret
      exact ⟨rfl, below_drewN B0.out _⟩
set_option maxRecDepth 100000 in
set_option maxHeartbeats 2000000 in
theorem holds_yes (s : ByteArray) (d n : Int) (t : ByteArray) (f : Int) (tv : Value) (ts : List ByteArray) (w : World) (hv : StrsAt w tv ts) (hn : ts.length ≤ 9223372036854775807) (hA : amongB d n = true) (hF : amongB f n = true) (hS : shapedB ts n = true) (hs : s.size ≤ 1000) (ht : t.size ≤ 100000) (hT : Tabs w) :
    Calls Tryd.prog 27 #[.string s, .int .i64 d, .int .i64 n, .string t, .agg #[.int .i64 f, tv]] w fun e w' => e = .returned (.bool ((ts.getD d.toNat ⟨#[]⟩).toList == (tagB s f d t).toList)) ∧ Below w.heap.size w w' := by
  obtain ⟨n1, n7, t0, tn⟩ := among_of hA
  obtain ⟨_, _, f0, fn⟩ := among_of hF
  have hl : (ts.length : Int) = n := by
    simp only [shapedB, Bool.and_eq_true, decide_eq_true_eq] at hS; exact hS.1
  obtain ⟨k, rfl⟩ := Int.eq_ofNat_of_zero_le t0
  have hk : k < ts.length := by omega
  rw [Int.toNat_natCast]
  obtain ⟨u, hu⟩ : ∃ u, ts.getD k ⟨#[]⟩ = u := ⟨_, rfl⟩
  rw [hu]
  have HV := Lib.hid hv
  have HN := Lib.hid hn
  have HA := Lib.hid hA
  have HF := Lib.hid hF
  have HS := Lib.hid hS
  have HSS := Lib.hid hs
  have HTT := Lib.hid ht
  have HT := Lib.hid hT
  have HRK := Lib.hid (show (0 : Int) ≤ (k : Int) ∧ (k : Int) ≤ 20 by omega)
  have HRF := Lib.hid (show (0 : Int) ≤ f ∧ f ≤ 20 by omega)
  obtain ⟨a0, cap, rfl, hx⟩ := hv
  rcases hx with hx | ⟨gb, off, rfl, hbw, hcell⟩
  · rw [hx] at hk; simp at hk
  have hcl := hcell k hk
  rw [hu] at hcl
  have hk' : (k : Int) < (ts.length : Int) := by omega
  have hk0 : (0 : Int) ≤ (k : Int) := by omega
  have HL := Lib.hid hl
  clear hn hA hF hS hs ht hT hcell hu hl n1 n7 t0 tn f0 fn hk
  go_enter Tryd.func27, Tryd.ntmps27
  go_wp2_with fail
  have c0 := cell_new w #[.int .i64 f, .slice (some ⟨gb, off, none⟩) ts.length cap] 35 0 _ rfl
  have c1 := cell_new w #[.int .i64 f, .slice (some ⟨gb, off, none⟩) ts.length cap] 35 1 _ rfl
  have b0 : Below w.heap.size w (w.alloc (.cells #[.int .i64 f, .slice (some ⟨gb, off, none⟩) ts.length cap] 35)) := (Below.refl _ _).alloc (Nat.le_refl _) _
  have c2 := (b0.cell (p := ⟨gb, off + k, none⟩) hbw).trans hcl
  generalize w.alloc (.cells #[.int .i64 f, .slice (some ⟨gb, off, none⟩) ts.length cap] 35) = w0 at *
  have z0 := b0.size
  obtain ⟨g, hg⟩ : ∃ g, w.heap.size = g := ⟨_, rfl⟩
  rw [hg] at c0 c1 b0 z0 ⊢
  have HG := Lib.hid hg
  clear hg hbw hcl
  have hst : w0.drew.cell? ⟨g, 0, none⟩ = some (.int .i64 f) ∧ w0.drew.cell? ⟨g, 1, none⟩ = some (.slice (some ⟨gb, off, none⟩) ts.length cap) ∧ w0.drew.cell? ⟨gb, off + k, none⟩ = some (.string u) ∧ Below g w w0.drew ∧ g ≤ w0.drew.heap.size := ⟨c0, c1, c2, b0.drew, z0⟩
  go_region_held3 (fun w' => w'.cell? ⟨g, 0, none⟩ = some (.int .i64 f) ∧ w'.cell? ⟨g, 1, none⟩ = some (.slice (some ⟨gb, off, none⟩) ts.length cap) ∧ w'.cell? ⟨gb, off + k, none⟩ = some (.string u) ∧ Below g w w' ∧ g ≤ w'.heap.size)
    (first | exact hst | assumption | exact hk2)
    (first
      | (go_at_call 48; refine (among_is _ _ true (by first | exact HA.out | exact HF.out) _).mono ?_; rintro e w1 ⟨rfl, rfl⟩)
      | (go_at_call 49; refine (shaped_is ts _ _ true HS.out _ (strs_now HV.out HG.out (by assumption : _ ∧ _ ∧ _ ∧ Below g w _ ∧ _).2.2.2.1) HN.out).mono ?_; rintro e w1 ⟨rfl, rfl⟩)
      | (go_at_call 50; refine (mtag_in s f k t HRF.out HRK.out HSS.out HTT.out _ (tabs_now HT.out HG.out (by assumption : _ ∧ _ ∧ _ ∧ Below g w _ ∧ _).2.2.2.1)).mono ?_; rintro e w1 ⟨rfl, hb1⟩; have hk2 := keepH (w := w) (g := g) (b := gb) (i := off + k) (f := f) (tv := .slice (some ⟨gb, off, none⟩) ts.length cap) (u := u) (by assumption) hb1))
  go_wp2_with fail
  go_ret
  exact ⟨rfl, by rw [HG.out]; exact hk2.2.2.2.1⟩
theorem holds_any (s : ByteArray) (d n : Int) (t : ByteArray) (f : Int) (tv : Value) (ts : List ByteArray) (w : World) (hv : StrsAt w tv ts) (hn : ts.length ≤ 9223372036854775807) (hs : s.size ≤ 1000) (ht : t.size ≤ 100000) (hT : Tabs w) :
    Calls Tryd.prog 27 #[.string s, .int .i64 d, .int .i64 n, .string t, .agg #[.int .i64 f, tv]] w fun e w' => e = .returned (.bool (holdsB s d n t f ts)) ∧ Below w.heap.size w w' := by
  rcases hA : (amongB d n && (amongB f n && shapedB ts n)) with _ | _
  · have : holdsB s d n t f ts = false := by
      unfold holdsB
      rw [← Bool.and_assoc, ← Bool.and_assoc, show (amongB d n && amongB f n && shapedB ts n) = false by rw [← hA, Bool.and_assoc], Bool.false_and]
    rw [this]
    exact holds_no s d n t f tv ts w hv hn hA
  · simp only [Bool.and_eq_true] at hA
    have : holdsB s d n t f ts = ((ts.getD d.toNat ⟨#[]⟩).toList == (tagB s f d t).toList) := by unfold holdsB; rw [hA.1, hA.2.1, hA.2.2]; rfl
    rw [this]
    exact holds_yes s d n t f tv ts w hv hn hA.1 hA.2.1 hA.2.2 hs ht hT
end Go.Proofs.YtigoaokpodggcaaDoor
end
section
open Go Go.RowKit
namespace WW
def quorumI (n : Int) : Int := (if n < 1 then 1 else n) - faultsI n
def leaderI (v n : Int) : Int := if v < 0 ∨ n < 1 then 0 else v % n
theorem faultsI_le (n : Int) : 0 ≤ faultsI n ∧ faultsI n ≤ 3074457345618258603 ∨ 9223372036854775807 < n := by unfold faultsI; split <;> omega
theorem wf_i64 {n : Int} (h : (Lit.int .i64 n).wf = true) : -9223372036854775808 ≤ n ∧ n ≤ 9223372036854775807 := by
  simp [Lit.wf, IntKind.min, IntKind.max, IntKind.signed, IntKind.bits] at h
  omega
end WW
namespace Go.Proofs.YtigoaokpodggcaaDoor
open WW BB
set_option maxRecDepth 100000 in
theorem cfaults_any (n : Int) (h : n ≤ 9223372036854775807) (w : World) : Calls Tryd.prog 55 #[.int .i64 n] w fun e w' => e = .returned (.int .i64 (faultsI n)) ∧ w = w' := by
  by_cases h1 : n < 1
  · have E := Lib.hid (show faultsI n = 0 by unfold faultsI; rw [if_pos h1])
    have h2 : n ≤ 1 := by omega
    go_enter Tryd.func55, Tryd.ntmps55
    go_wp2_with fail
    go_ret
    exact ⟨by rw [E.out]; rfl, rfl⟩
  · have E := Lib.hid (show faultsI n = (n - 1) / 3 by unfold faultsI; rw [if_neg h1])
    have h2 : 0 ≤ n - 1 := by omega
    have h3 : n - 1 ≤ 9223372036854775806 := by omega
    have h4 : 1 ≤ n := by omega
    go_enter Tryd.func55, Tryd.ntmps55
    go_wp2_with fail
    go_ret
    exact ⟨by rw [E.out]; rfl, rfl⟩
theorem cfaults_is (n f : Int) (hf : faultsI n = f) (h : n ≤ 9223372036854775807) (w : World) : Calls Tryd.prog 55 #[.int .i64 n] w fun e w' => e = .returned (.int .i64 f) ∧ w = w' := hf ▸ cfaults_any n h w
theorem rfaults_is (n f : Int) (hf : faultsI n = f) (h : n ≤ 9223372036854775807) (w : World) : Calls Tryd.prog 20 #[.int .i64 n] w fun e w' => e = .returned (.int .i64 f) ∧ w = w' := hf ▸ rfaults_any n h w
set_option maxRecDepth 100000 in
theorem cquorum_any (n : Int) (h : n ≤ 9223372036854775807) (w : World) : Calls Tryd.prog 31 #[.int .i64 n] w fun e w' => e = .returned (.int .i64 (quorumI n)) ∧ w = w' := by
  obtain ⟨f, hf⟩ : ∃ f, faultsI n = f := ⟨_, rfl⟩
  have F := Lib.hid hf
  by_cases h1 : n < 1
  · have E := Lib.hid (show quorumI n = 1 - f by unfold quorumI; rw [if_pos h1, hf])
    have f0 : 0 = f := by rw [← hf]; unfold faultsI; rw [if_pos h1]
    have h2 : n ≤ 1 := by omega
    clear hf
    subst f0
    go_enter Tryd.func31, Tryd.ntmps31
    go_wp2_with fail
    refine (cfaults_is n 0 F.out h w).mono ?_
    rintro e w' ⟨rfl, rfl⟩
    go_wp2_with fail
    go_ret
    exact ⟨by rw [E.out]; rfl, rfl⟩
  · have E := Lib.hid (show quorumI n = n - f by unfold quorumI; rw [if_neg h1, hf])
    have f0 : 0 ≤ f ∧ f ≤ n := by rw [← hf]; unfold faultsI; rw [if_neg h1]; omega
    have f1 := f0.1
    have f2 := f0.2
    have f3 : 0 ≤ n - f := by omega
    have f4 : n - f ≤ 9223372036854775807 := by omega
    have h4 : 1 ≤ n := by omega
    clear hf f0
    go_enter Tryd.func31, Tryd.ntmps31
    go_wp2_with fail
    refine (cfaults_is n f F.out h w).mono ?_
    rintro e w' ⟨rfl, rfl⟩
    go_wp2_with fail
    go_ret
    exact ⟨by rw [E.out]; rfl, rfl⟩
end Go.Proofs.YtigoaokpodggcaaDoor
end
section
open Go Go.RowKit
namespace Go.Proofs.YtigoaokpodggcaaDoor
open WW BB Go.WideShapes Go.ChangeShapes Go.Deep
section
variable {H : Type} {enc : TypeId × Value → H} {W : World}
abbrev TrodW (enc : TypeId × Value → H) (W : World) (fuel : Nat) (t : TypeId) (cs : List Value) (x : DataW H × List MemPlace) : Prop := DataW.trod enc Tryd.prog W 0 (fun _ => true) true fuel t cs = some x
theorem len_max {n : Nat} (h : n ≤ maxLen) : n ≤ 9223372036854775807 := h
theorem cells_str : Tryd.prog.cellsOf 9 = 1 := by kernel_rfl
theorem cells_sig : Tryd.prog.cellsOf 35 = 2 := by kernel_rfl
set_option maxRecDepth 100000 in
theorem open_strs {fuel : Nat} {cs : List Value} {x : DataW H × List MemPlace} (h : TrodW enc W fuel 33 cs x) : ∃ sv l, cs = [sv] ∧ StrsAt W sv l ∧ l.length ≤ 9223372036854775807 := by
  rcases open_strings Tryd.underlying33 Tryd.underlying9 cells_str h with ⟨hcs, hx⟩ | ⟨a, len, cap, ss, hcs, _, hl, hm, hz, hx, hcell, hws⟩
  · exact ⟨_, [], hcs, ⟨none, 0, rfl, Or.inl rfl⟩, by simp⟩
  · simp only [if_true] at hz
    refine ⟨_, ss.take len, hcs, ⟨some a, cap, by rw [List.length_take_of_le (by omega)], ?_⟩, by rw [List.length_take_of_le (by omega)]; exact Nat.le_trans hl (len_max hm)⟩
    by_cases hl0 : len = 0
    · exact Or.inl (by subst hl0; rfl)
    · refine Or.inr ?_
      obtain ⟨b, off, spot⟩ := a
      have hspot : spot = none := by simpa [Addr.add] using World.cell?_spot (hcell 0 (by omega))
      subst hspot
      refine ⟨b, off, rfl, ?_, fun i hi => ?_⟩
      · have := hcell 0 (by omega)
        exact World.block_lt_of_cell? W _ this
      · rw [List.length_take_of_le (by omega)] at hi
        rw [← add_plain, hcell i (by omega)]
        simp only [List.getD_eq_getElem?_getD, List.getElem?_take_of_lt hi]
        rfl
set_option maxRecDepth 100000 in
theorem open_sig {fuel : Nat} {cs : List Value} {x : DataW H × List MemPlace} (h : TrodW enc W fuel 35 cs x) : ∃ f tv ts, cs = [.int .i64 f, tv] ∧ StrsAt W tv ts ∧ ts.length ≤ 9223372036854775807 := by
  obtain ⟨y0, y1, n, _, hl, h0, h1⟩ := trod_struct2 Tryd.underlying35 h
  rw [cells_sig] at hl
  match cs, hl with
  | [u0, u1], _ =>
    obtain ⟨f, hf, _⟩ := DataW.trod_int Tryd.underlying3 h0
    obtain ⟨tv, ts, htv, hts, hm⟩ := open_strs h1
    have e0 : [u0] = [.int .i64 f] := hf
    have e1 : [u1] = [tv] := htv
    simp only [List.cons.injEq, and_true] at e0 e1
    exact ⟨f, tv, ts, by rw [e0, e1], hts, hm⟩
end
end Go.Proofs.YtigoaokpodggcaaDoor
end
section
open Go Go.RowKit Go.WideShapes Go.ChangeShapes
namespace BB
section
variable {H : Type} {enc : TypeId × Value → H} {P : Program}
theorem post_of_below {f : Func} {s : ChangeSpec} {apart fresh handsOn again : Bool} {W W' : World} {args : Array Value} {v : Value} {ds gs : List (DataW H)} {before pa pv : List MemPlace}
    (hW : DataW.Whole enc P f.params.toList s.vars apart W args.toList ds gs before)
    (hres : ∀ (b : Nat) (sp : Nat → Bool) (hd : Bool), DataW.TrodAll enc P W' b sp hd f.resultTypes.toList (v.resultList f.resultTypes.size) (s.fn H (ds ++ gs)).results [])
    (hargs : ∀ sp : Nat → Bool, (∀ p ∈ before, sp p.block = true) → DataW.TrodAll enc P W' 0 sp true f.params.toList args.toList (s.fn H (ds ++ gs)).args pa)
    (hvars : ∀ sp : Nat → Bool, (∀ p ∈ before, sp p.block = true) → DataW.TrodVars enc P W' sp s.vars (s.fn H (ds ++ gs)).vars pv)
    (hps : before = pa ++ pv) (hb : Below W.heap.size W W')
    (hok : ∀ (j : Nat) (t : TypeId) (r : Value), f.resultTypes[j]? = some t → (v.resultList f.resultTypes.size)[j]? = some r → Value.okWide P W' .any 0 t r) :
    s.post enc P f apart fresh handsOn again W args v W' := by
  have hlt : ∀ p ∈ before, p.block < W.heap.size := fun p hp => hW.lt p hp
  have hold : ∀ p ∈ before, (fun b => decide (b < W.heap.size)) p.block = true := fun p hp => by simpa using hlt p hp
  refine ⟨ds, gs, before, [], pa, pv, hW, hres _ _ _, hargs _ hold, hvars _ hold, World.keptBut_mono (fun p hp => ⟨hp, ?_⟩) (hb.frame (· ∈ before)), fun _ => ?_⟩
  · rw [hps, List.mem_append] at hp
    exact Or.inr hp
  · obtain ⟨_, _, _, _, _, hz, hn⟩ := hW
    refine ⟨hok, _, _, ([] ++ pa) ++ pv, ⟨[] ++ pa, pv, trodAll_append (hargs _ (fun _ _ => rfl)) (hres _ _ _), hvars _ (fun _ _ => rfl), rfl, ?_, ?_⟩, ?_⟩
    · intro b off hp
      have hin : MemPlace.cell b off ∈ before := by rw [hps]; simpa using hp
      rw [hb.frozen (hlt _ hin)]
      exact hz b off hin
    · intro ha
      have := hn ha
      rw [hps] at this
      simpa using this
    · intro p hp _
      rw [hps]
      simpa using hp
end
open Go.Lib in
theorem nest_cells {H : Type} {enc : TypeId × Value → H} {P : Program} {w : World} {base fuel t e u n m : Nat} {sp : Nat → Bool} {held : Bool} {k : IntKind} {cs : List Value} {p : List MemPlace} (f : Nat → Nat)
    (ht : P.underlying t = some (.array n e)) (he : P.underlying e = some (.array m u)) (hu : P.underlying u = some (.int k)) (hcu : P.cellsOf u = 1) (hce : P.cellsOf e = m)
    (hd : DataW.trod enc P w base sp held fuel t cs = some (.agg ((List.range n).map fun r => tabData k ((List.range m).map fun c => (f (r * m + c) : Int))), p))
    (r c : Nat) (hr : r < n) (hc : c < m) : cs[r * m + c]? = some (.int k (f (r * m + c) : Int)) := by
  obtain ⟨xs, fu, _, hx, _, hn, hel⟩ := DataW.trod_array ht hd
  have h1 := hel r hr
  have hr' : r < xs.length := by omega
  rw [List.getElem?_eq_getElem hr'] at h1
  simp only [Prod.mk.injEq, DataW.agg.injEq] at hx
  have h2 : (xs[r]).1 = tabData k ((List.range m).map fun c => (f (r * m + c) : Int)) := by
    have := congrArg (·[r]?) hx.1
    simp [hr, List.getElem?_eq_getElem hr'] at this
    exact this.symm
  have h3 : DataW.trod enc P w base sp held fu e ((cs.drop (r * P.cellsOf e)).take (P.cellsOf e)) = some (tabData k ((List.range m).map fun c => (f (r * m + c) : Int)), (xs[r]).2) := by
    rw [h1, ← h2]
  have h4 := cells_of_tab he hu hcu hce h3
  rw [hce] at h4
  have h5 := congrArg (·[c]?) h4
  simp only [List.getElem?_take, List.getElem?_drop, List.getElem?_map, List.getElem?_range hc, Option.map_some, if_pos hc] at h5
  exact h5
end BB
namespace Go.Proofs.YtigoaokpodggcaaDoor
open BB Go.Lib
def laid3 : List (String × DataW Unit) := [("comitia/blake.start", Rows.laid_comitia_blake_start), ("comitia/blake.rows", Rows.laid_comitia_blake_rows), ("comitia/blake.places", Rows.laid_comitia_blake_places)]
theorem gStart : Tryd.prog.globalNamed "comitia/blake.start" = some 0 := by kernel_rfl
theorem gRows : Tryd.prog.globalNamed "comitia/blake.rows" = some 1 := by kernel_rfl
theorem gPlaces : Tryd.prog.globalNamed "comitia/blake.places" = some 2 := by kernel_rfl
theorem tStart : (Tryd.prog.globals[0]?).map (·.type) = some 120 := by kernel_rfl
theorem tRows : (Tryd.prog.globals[1]?).map (·.type) = some 135 := by kernel_rfl
theorem tPlaces : (Tryd.prog.globals[2]?).map (·.type) = some 137 := by kernel_rfl
theorem dStart : (Rows.laid_comitia_blake_start : DataW Unit) = tabData .u32 ((List.range 8).map fun i => ((iv i).toNat : Int)) := by rfl
theorem dRows : (Rows.laid_comitia_blake_rows : DataW Unit) = .agg ((List.range 10).map fun r => tabData .u8 ((List.range 16).map fun c => (sg (r * 16 + c) : Int))) := by rfl
theorem dPlaces : (Rows.laid_comitia_blake_places : DataW Unit) = .agg ((List.range 8).map fun r => tabData .u8 ((List.range 4).map fun c => (pl (r * 4 + c) : Int))) := by rfl
theorem tabs_of_laid {W : World} (h : laidMetH Tryd.prog laid3 W) : Tabs W := by
  rw [MakeChecks.laidMetH_plain _ _ _ (by kernel_rfl)] at h
  obtain ⟨ps, ⟨g0, t0, cs0, f0, p0, q0, hg0, ht0, hv0, hd0, ⟨g1, t1, cs1, f1, p1, q1, hg1, ht1, hv1, hd1, ⟨g2, t2, cs2, f2, p2, q2, hg2, ht2, hv2, hd2, _, _⟩, _⟩, _⟩, _, _⟩ := h
  obtain rfl := Option.some.inj (gStart.symm.trans hg0)
  obtain rfl := Option.some.inj (gRows.symm.trans hg1)
  obtain rfl := Option.some.inj (gPlaces.symm.trans hg2)
  obtain rfl := Option.some.inj (tStart.symm.trans ht0)
  obtain rfl := Option.some.inj (tRows.symm.trans ht1)
  obtain rfl := Option.some.inj (tPlaces.symm.trans ht2)
  rw [dStart] at hd0
  rw [dRows] at hd1
  rw [dPlaces] at hd2
  have c0 : Cells W 0 8 (cw .u32 iv) := fun i hi => by
    have hcs := cells_of_tab (n := 8) (e := 119) (by kernel_rfl) (by kernel_rfl) (by kernel_rfl) (by kernel_rfl) hd0
    rw [World.var?_cell hg0 hv0 i, ← Array.getElem?_toList, hcs]
    simp [hi, cw]
  have c1 : Cells W 1 160 (cb sg) := fun i hi => by
    have := nest_cells (e := 134) (u := 5) sg (by kernel_rfl) (by kernel_rfl) (by kernel_rfl) (by kernel_rfl) (by kernel_rfl) hd1 (i / 16) (i % 16) (by omega) (by omega)
    rw [show i / 16 * 16 + i % 16 = i by omega] at this
    rw [World.var?_cell hg1 hv1 i, ← Array.getElem?_toList]
    exact this
  have c2 : Cells W 2 32 (cb pl) := fun i hi => by
    have := nest_cells (e := 136) (u := 5) pl (by kernel_rfl) (by kernel_rfl) (by kernel_rfl) (by kernel_rfl) (by kernel_rfl) hd2 (i / 4) (i % 4) (by omega) (by omega)
    rw [show i / 4 * 4 + i % 4 = i by omega] at this
    rw [World.var?_cell hg2 hv2 i, ← Array.getElem?_toList]
    exact this
  exact ⟨c0, c1, c2, World.block_lt_of_cell? W ⟨_, 0, none⟩ (c0 0 (by omega)), World.block_lt_of_cell? W ⟨_, 0, none⟩ (c1 0 (by omega)), World.block_lt_of_cell? W ⟨_, 0, none⟩ (c2 0 (by omega))⟩
theorem door_met (os : Os) (args : Array Value) : laidMetH Tryd.prog laid3 ((World.doorLaid Tryd.prog 42 os).forCall (fun _ _ => 0) ⟨#[], args, []⟩).memory :=
  laidMetH_of_parts3 (fuel := 8) (laidMet_of_run' 8 (by kernel_rfl) (by kernel_rfl)) (by kernel_rfl) (by kernel_rfl)
theorem own : ownKnob Tryd.prog.godebug = none := by kernel_rfl
end Go.Proofs.YtigoaokpodggcaaDoor
end
