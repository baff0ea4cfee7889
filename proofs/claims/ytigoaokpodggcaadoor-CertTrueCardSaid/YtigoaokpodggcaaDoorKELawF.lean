/-
  The walk of the law CertFirst.
-/
import Derived.Test.YtigoaokpodggcaaDoorKELawH
import Derived.Test.YtigoaokpodggcaaDoorKWApart
open Go Go.RowKit
namespace CC
open MM WW BB
/-- a new certificate's cells, and what was as it was -/
theorem box_cert (w : World) (v : Value) (k : ByteArray) (s : Value) (T : TypeId) :
    BoxAt w w.heap.size [v, .string k, s] ((((w.alloc (.cells #[.int .i64 0, .string ⟨#[]⟩, .slice none 0 0] T)).setCell ⟨w.heap.size, 0, none⟩ v).setCell ⟨w.heap.size, 1, none⟩ (.string k)).setCell ⟨w.heap.size, 2, none⟩ s) := by
  have k0 : Blk (w.alloc (.cells #[.int .i64 0, .string ⟨#[]⟩, .slice none 0 0] T)) w.heap.size 3 (cC (.int .i64 0) ⟨#[]⟩ (.slice none 0 0)) := Blk.new' rfl (cC_row _ _ _)
  have k3 := ((k0.set 0 v).set 1 (.string k)).set 2 s
  refine ⟨?_, k3.lt, ?_⟩
  · exact ((Below.refl w.heap.size w).alloc (Nat.le_refl _) _).trans ((((Upd.set _ _ _ _).trans (Upd.set _ _ _ _)).trans (Upd.set _ _ _ _)).below (Nat.le_refl _))
  · intro i u hu
    match i, hu with
    | 0, hu => rw [k3.get 0 (by omega)]; exact hu
    | 1, hu => rw [k3.get 1 (by omega)]; exact hu
    | 2, hu => rw [k3.get 2 (by omega)]; exact hu
/-- three boxes -/
structure Box3 (w : World) (g1 : Nat) (c1 : List Value) (g2 : Nat) (c2 : List Value) (g3 : Nat) (c3 : List Value) (wr : World) : Prop where
  a : BoxAt w g1 c1 wr
  b : BoxAt w g2 c2 wr
  c : BoxAt w g3 c3 wr
theorem sigs_one {w : World} {f : Int} {tv : Value} {ts : List ByteArray} {g cap : Nat} (h0 : w.cell? ⟨g, 0, none⟩ = some (.int .i64 f)) (h1 : w.cell? ⟨g, 1, none⟩ = some tv) (ht : StrsAt w tv ts) : SigsAt w (.slice (some ⟨g, 0, none⟩) 1 cap) [(f, ts)] := by
  refine ⟨_, cap, rfl, Or.inr ⟨g, 0, rfl, World.block_lt_of_cell? w _ h0, fun i hi => ?_⟩⟩
  have : i = 0 := by simpa using hi
  subst this
  exact ⟨tv, h0, h1, ht⟩
/-- three certificates' cells -/
def Nine (base g1 g2 g3 : Nat) (p0 p1 p2 q0 q1 q2 r0 r1 r2 : Value) (w W : World) : Prop :=
  W.cell? ⟨g1, 0, none⟩ = some p0 ∧ W.cell? ⟨g1, 1, none⟩ = some p1 ∧ W.cell? ⟨g1, 2, none⟩ = some p2 ∧ W.cell? ⟨g2, 0, none⟩ = some q0 ∧ W.cell? ⟨g2, 1, none⟩ = some q1 ∧ W.cell? ⟨g2, 2, none⟩ = some q2 ∧
  W.cell? ⟨g3, 0, none⟩ = some r0 ∧ W.cell? ⟨g3, 1, none⟩ = some r1 ∧ W.cell? ⟨g3, 2, none⟩ = some r2 ∧ Below base w W ∧ base ≤ W.heap.size
theorem keep9 {base g1 g2 g3 : Nat} {p0 p1 p2 q0 q1 q2 r0 r1 r2 : Value} {w W w1 : World} (h : W.cell? ⟨g1, 0, none⟩ = some p0 ∧ W.cell? ⟨g1, 1, none⟩ = some p1 ∧ W.cell? ⟨g1, 2, none⟩ = some p2 ∧ W.cell? ⟨g2, 0, none⟩ = some q0 ∧ W.cell? ⟨g2, 1, none⟩ = some q1 ∧ W.cell? ⟨g2, 2, none⟩ = some q2 ∧
    W.cell? ⟨g3, 0, none⟩ = some r0 ∧ W.cell? ⟨g3, 1, none⟩ = some r1 ∧ W.cell? ⟨g3, 2, none⟩ = some r2 ∧ Below base w W ∧ base ≤ W.heap.size) (hb : Below W.heap.size W w1) :
    w1.cell? ⟨g1, 0, none⟩ = some p0 ∧ w1.cell? ⟨g1, 1, none⟩ = some p1 ∧ w1.cell? ⟨g1, 2, none⟩ = some p2 ∧ w1.cell? ⟨g2, 0, none⟩ = some q0 ∧ w1.cell? ⟨g2, 1, none⟩ = some q1 ∧ w1.cell? ⟨g2, 2, none⟩ = some q2 ∧
    w1.cell? ⟨g3, 0, none⟩ = some r0 ∧ w1.cell? ⟨g3, 1, none⟩ = some r1 ∧ w1.cell? ⟨g3, 2, none⟩ = some r2 ∧ Below base w w1 ∧ base ≤ w1.heap.size := by
  obtain ⟨h0, h1, h2, h3, h4, h5, h6, h7, h8, h9, h10⟩ := h
  have key : ∀ {g o : Nat} {v : Value}, W.cell? ⟨g, o, none⟩ = some v → w1.cell? ⟨g, o, none⟩ = some v := fun {g o v} hc => (hb.cell (p := ⟨g, o, none⟩) (World.block_lt_of_cell? W _ hc)).trans hc
  exact ⟨key h0, key h1, key h2, key h3, key h4, key h5, key h6, key h7, key h8, h9.trans (hb.mono h10), Nat.le_trans h10 hb.size⟩
theorem nine_below {base g1 g2 g3 : Nat} {p0 p1 p2 q0 q1 q2 r0 r1 r2 : Value} {w W : World} (h : W.cell? ⟨g1, 0, none⟩ = some p0 ∧ W.cell? ⟨g1, 1, none⟩ = some p1 ∧ W.cell? ⟨g1, 2, none⟩ = some p2 ∧ W.cell? ⟨g2, 0, none⟩ = some q0 ∧ W.cell? ⟨g2, 1, none⟩ = some q1 ∧ W.cell? ⟨g2, 2, none⟩ = some q2 ∧
    W.cell? ⟨g3, 0, none⟩ = some r0 ∧ W.cell? ⟨g3, 1, none⟩ = some r1 ∧ W.cell? ⟨g3, 2, none⟩ = some r2 ∧ Below base w W ∧ base ≤ W.heap.size) : Below base w W := h.2.2.2.2.2.2.2.2.2.1
end CC
namespace Go.Proofs.YtigoaokpodggcaaDoor
open CC MM WW BB
theorem fewsig5_is (f : Int) (tv : Value) (ts : List ByteArray) (b : Bool) (hb : fewSig ts = b) (w : World) (hv : StrsAt w tv ts) (hn : ts.length ≤ 9223372036854775807) :
    Calls Tryd.prog 14 #[.agg #[.int .i64 f, tv]] w fun e w' => e = .returned (.bool b) ∧ Below w.heap.size w w' := hb ▸ fewsig_any f tv ts w hv hn
set_option maxRecDepth 100000 in
set_option maxHeartbeats 8000000 in
theorem lawf_big (f : Int) (tv : Value) (ts : List ByteArray) (k : ByteArray) (a b : Nat) (w : World) (hv : StrsAt w tv ts) (hn : ts.length ≤ 9223372036854775807) (h : fewSig ts = false ∨ fewSig ts = true ∧ 50 < k.size) (hT : Tabs w) :
    Calls Tryd.prog 7 #[.agg #[.int .i64 f, tv], .string k, .agg #[.int .u8 (a : Int), .int .u8 (b : Int)]] w fun e w' => e = .returned (.bool true) ∧ Below w.heap.size w w' := by
  have HV := Lib.hid hv
  have HN := Lib.hid hn
  have HT := Lib.hid hT
  obtain ⟨a0, cap, rfl, _⟩ := hv
  clear hn hT
  have b1 := Lib.hid (((Below.refl w.heap.size w).alloc (Nat.le_refl _) (.cells #[.int .i64 f, .slice a0 ts.length cap] 35)).alloc (by simp) (.cells #[.int .u8 (a : Int), .int .u8 (b : Int)] 49))
  have X0 := Lib.hid ((box_mk w [.int .i64 f, .slice a0 ts.length cap] 35).on ((Below.refl _ _).alloc (Nat.le_refl _) (.cells #[.int .u8 (a : Int), .int .u8 (b : Int)] 49)))
  rcases h with h | ⟨h, h2⟩
  all_goals
    have HF := Lib.hid h
    try have t1 : (50 : Int) < (k.size : Int) := by omega
    clear h
    try clear h2
    go_enter Tryd.func7, Tryd.ntmps7
    go_wp2_with fail
    refine (awake5_any _ (tabs_on HT.out b1.out)).mono ?_
    rintro e w2 ⟨rfl, hb2⟩
    have B2 := Lib.hid (b1.out.trans (hb2.mono b1.out.size))
    have c0 := box_on X0.out hb2 0 _ rfl
    have c1 := box_on X0.out hb2 1 _ rfl
    clear hb2 b1
    go_wp2_with fail
    refine (fewsig5_is f _ ts _ HF.out w2 (HV.out.later B2.out) HN.out).mono ?_
    rintro e w3 ⟨rfl, hb3⟩
    have B3 := Lib.hid (B2.out.trans (hb3.mono B2.out.size))
    clear hb3 c0 c1
    go_wp2_with fail
    refine (awake5_any _ (tabs_on HT.out B3.out)).mono ?_
    rintro e w4 ⟨rfl, hb4⟩
    have B4 := Lib.hid (B3.out.trans (hb4.mono B3.out.size))
    clear hb4
    go_wp2_with fail
    go_ret
    exact ⟨rfl, B4.out⟩
theorem chz_is (b : Bool) (s : ByteArray) (d n : Int) (k : ByteArray) (sv : Value) (l : List (Int × List ByteArray)) (hb : decide (k = firstD ∧ l = []) = b) (w : World) (hv : SigsAt w sv l) (hsm : l.length ≤ 1000 ∧ ∀ i, i < l.length → (l.getD i (0, [])).2.length ≤ 1000) (hT : Tabs w) :
    Calls Tryd.prog 12 #[.string s, .int .i64 d, .int .i64 n, .agg #[.int .i64 0, .string k, sv]] w fun e w' => e = .returned (.bool b) ∧ Below w.heap.size w w' := hb ▸ chold_zero s d n k sv l w hv hsm hT
set_option maxRecDepth 100000 in
set_option maxHeartbeats 16000000 in
theorem lawf_in (f : Int) (tv : Value) (ts : List ByteArray) (k : ByteArray) (a b : Nat) (w : World) (hv : StrsAt w tv ts) (hf : fewSig ts = true) (hk : k.size ≤ 50) (ha : a < 256) (hb : b < 256) (hT : Tabs w) :
    Calls Tryd.prog 7 #[.agg #[.int .i64 f, tv], .string k, .agg #[.int .u8 (a : Int), .int .u8 (b : Int)]] w fun e w' => e = .returned (.bool true) ∧ Below w.heap.size w w' := by
  have hts : ts.length ≤ 10 := (fewsig_flat ts hf).2
  have HV := Lib.hid hv
  have HF := Lib.hid hf
  have HK := Lib.hid (show k.size ≤ 1000000 by omega)
  have HN := Lib.hid hts
  have HT := Lib.hid hT
  have t1 : ¬ (50 : Int) < (k.size : Int) := by omega
  have a0' : (0 : Int) ≤ (a : Int) := by omega
  have a1' : (a : Int) ≤ 255 := by omega
  have b0' : (0 : Int) ≤ (b : Int) := by omega
  have b1' : (b : Int) ≤ 255 := by omega
  obtain ⟨a0, cap, rfl, _⟩ := hv
  clear hf hk hts hT ha hb
  have b1 := (((Below.refl w.heap.size w).alloc (Nat.le_refl _) (.cells #[.int .i64 f, .slice a0 ts.length cap] 35)).alloc (by simp) (.cells #[.int .u8 (a : Int), .int .u8 (b : Int)] 49))
  have X0 := ((box_mk w [.int .i64 f, .slice a0 ts.length cap] 35).on ((Below.refl _ _).alloc (Nat.le_refl _) (.cells #[.int .u8 (a : Int), .int .u8 (b : Int)] 49)))
  have X1 := box_mk (w.alloc (.cells #[.int .i64 f, .slice a0 ts.length cap] 35)) [.int .u8 (a : Int), .int .u8 (b : Int)] 49
  rw [show (w.alloc (.cells #[.int .i64 f, .slice a0 ts.length cap] 35)).heap.size = w.heap.size + 1 by simp] at X1
  go_enter Tryd.func7, Tryd.ntmps7
  go_wp2_with fail
  obtain ⟨g, hg⟩ : ∃ g, w.heap.size = g := ⟨_, rfl⟩
  have HG := Lib.hid hg
  obtain ⟨w0, hw0⟩ : ∃ w0, (w.alloc (.cells #[.int .i64 f, .slice a0 ts.length cap] 35)).alloc (.cells #[.int .u8 (a : Int), .int .u8 (b : Int)] 49) = w0 := ⟨_, rfl⟩
  have e0 : (w.alloc (.cells [.int .i64 f, .slice a0 ts.length cap].toArray 35)).alloc (.cells #[.int .u8 (a : Int), .int .u8 (b : Int)] 49) = w0 := hw0
  have e1 : (w.alloc (.cells #[.int .i64 f, .slice a0 ts.length cap] 35)).alloc (.cells [.int .u8 (a : Int), .int .u8 (b : Int)].toArray 49) = w0 := hw0
  rw [e0] at X0
  rw [e1] at X1
  rw [hw0] at b1 ⊢
  rw [hg] at X0 X1 ⊢
  clear hg hw0 e0 e1
  have B1 := Lib.hid b1
  have HX0 := Lib.hid (fun (wx : World) (hb : Below w0.heap.size w0 wx) => And.intro (box_on X0 hb 0 _ rfl) (box_on X0 hb 1 _ rfl))
  have HX1 := Lib.hid (fun (wx : World) (hb : Below w0.heap.size w0 wx) => And.intro (box_on X1 hb 0 _ rfl) (box_on X1 hb 1 _ rfl))
  have HV1 := Lib.hid (fun (wx : World) (hb : Below w0.heap.size w0 wx) => HV.out.later (b1.trans (hb.mono b1.size)))
  have HT1 := Lib.hid (fun (wx : World) (hb : Below w0.heap.size w0 wx) => tabs_on HT.out (b1.trans (hb.mono b1.size)))
  clear b1 X0 X1
  refine (awake5_any _ (HT1.out w0 (Below.refl _ _))).mono ?_
  rintro e w2 ⟨rfl, hb2⟩
  have B2 := Lib.hid hb2
  obtain ⟨c0, c1⟩ := HX0.out w2 hb2
  clear hb2
  go_wp2_with fail
  refine (fewsig5_is f _ ts true HF.out w2 (HV1.out w2 B2.out) (by have := HN.out; omega)).mono ?_
  rintro e w3 ⟨rfl, hb3⟩
  have B3 := Lib.hid (B2.out.trans (hb3.mono B2.out.size))
  clear c0 c1 hb3
  obtain ⟨c0, c1⟩ := HX1.out w3 B3.out
  go_upto_region 5 with fail
  obtain ⟨n, hn⟩ : ∃ n : Nat, (1 + (a : Int) % 7) = (n : Int) := ⟨1 + a % 7, by omega⟩
  rw [hn]
  have HN7 := Lib.hid (show 1 ≤ n ∧ n ≤ 7 by omega)
  have n1 : (1 : Int) ≤ (n : Int) := by omega
  have n7 : (n : Int) ≤ 7 := by omega
  have nz : ¬ (n : Int) = 0 := by omega
  clear hn a0' a1'
  obtain ⟨i, hi⟩ : ∃ i : Nat, i = b % n := ⟨_, rfl⟩
  have m1 : (b : Int).tmod (n : Int) = (i : Int) := by rw [hi]; rfl
  have m2 : (b : Int) % (n : Int) = (i : Int) := by rw [hi]; rfl
  clear hi
  go_wp2_with fail
  clear c0 c1 m1 m2 b0' b1' n1 n7 nz
  refine (first_any w3 (HT1.out w3 B3.out)).mono ?_
  rintro e w4 ⟨rfl, hb4⟩
  have B4 := Lib.hid (B3.out.trans (hb4.mono B3.out.size))
  clear hb4
  have X3 := box_mk w4 [.int .i64 0, .string firstD, .slice none 0 0] 24
  go_upto_region 7 with fail
  refine abs_wp (fun wx => BoxAt w4 w4.heap.size [.int .i64 0, .string firstD, .slice none 0 0] wx) X3 ?_
  intro w5 Y3
  clear X3
  obtain ⟨g3, hg3⟩ : ∃ g3, w4.heap.size = g3 := ⟨_, rfl⟩
  have BX := Y3.below
  rw [hg3] at Y3 ⊢
  have HG3 := Lib.hid hg3
  have B5 := Lib.hid (B4.out.trans (BX.mono B4.out.size))
  have HX3 := Lib.hid (fun (wx : World) (hb : Below w5.heap.size w5 wx) => And.intro (Y3.on hb |>.cell 0 _ rfl) (And.intro (Y3.on hb |>.cell 1 _ rfl) (Y3.on hb |>.cell 2 _ rfl)))
  have c1 : w5.cell? ⟨g3, 1, none⟩ = some (.string firstD) := Y3.cell 1 _ rfl
  obtain ⟨d0, d1⟩ := HX0.out w5 B5.out
  have HV5 := Lib.hid (HV1.out w5 B5.out)
  clear BX Y3 hg3
  have P1 := (box_mk w5 [.int .i64 f, .slice a0 ts.length cap] 35).on ((Below.refl _ _).alloc (Nat.le_refl _) (.cells #[.int .i64 0, .string firstD, .slice (some ⟨w5.heap.size, 0, none⟩) 1 1] 24))
  have P2 := box_mk (w5.alloc (.cells #[.int .i64 f, .slice a0 ts.length cap] 35)) [.int .i64 0, .string firstD, .slice (some ⟨w5.heap.size, 0, none⟩) 1 1] 24
  rw [show (w5.alloc (.cells #[.int .i64 f, .slice a0 ts.length cap] 35)).heap.size = w5.heap.size + 1 by simp] at P2
  go_upto_region 8 with fail
  refine abs_wp (fun wx => BoxAt w5 w5.heap.size [.int .i64 f, .slice a0 ts.length cap] wx ∧ BoxAt w5 (w5.heap.size + 1) [.int .i64 0, .string firstD, .slice (some ⟨w5.heap.size, 0, none⟩) 1 1] wx) ⟨P1, ⟨P1.below, P2.lt, P2.cell⟩⟩ ?_
  rintro w6 ⟨Q1, Q2⟩
  clear P1 P2 c1 d0 d1
  obtain ⟨g4, hg4⟩ : ∃ g4, w5.heap.size = g4 := ⟨_, rfl⟩
  have BX := Q1.below
  have Z1 := HX3.out w6 Q1.below
  have HV6 := Lib.hid (HV5.out.later Q1.below)
  rw [hg4] at Q1 Q2 ⊢
  have HG4 := Lib.hid hg4
  have B6 := Lib.hid (B5.out.trans (BX.mono B5.out.size))
  clear BX hg4
  have P3 := box_mk w6 [.int .i64 0, .string k, .slice none 0 0] 24
  go_upto_region 9 with fail
  refine abs_wp (fun wx => BoxAt w6 w6.heap.size [.int .i64 0, .string k, .slice none 0 0] wx) P3 ?_
  intro w7 Q3
  clear P3
  obtain ⟨g5, hg5⟩ : ∃ g5, w6.heap.size = g5 := ⟨_, rfl⟩
  have BX := Q3.below
  have HV7 := Lib.hid (HV6.out.later BX)
  have B7 := Lib.hid (B6.out.trans (BX.mono B6.out.size))
  have Y1 : w7.cell? ⟨g4, 0, none⟩ = some (.int .i64 f) := (Q1.on BX).cell 0 _ rfl
  have Y2 : w7.cell? ⟨g4, 1, none⟩ = some (.slice a0 ts.length cap) := (Q1.on BX).cell 1 _ rfl
  have HSG := Lib.hid (sigs_one (cap := 1) Y1 Y2 HV7.out)
  have key : ∀ {x o : Nat} {v : Value}, w6.cell? ⟨x, o, none⟩ = some v → w7.cell? ⟨x, o, none⟩ = some v := fun {x o v} hc => (BX.cell (p := ⟨x, o, none⟩) (World.block_lt_of_cell? w6 _ hc)).trans hc
  rw [hg5] at Q3 ⊢
  have hst : w7.drew.cell? ⟨g3, 0, none⟩ = some (.int .i64 0) ∧ w7.drew.cell? ⟨g3, 1, none⟩ = some (.string firstD) ∧ w7.drew.cell? ⟨g3, 2, none⟩ = some (.slice none 0 0) ∧ w7.drew.cell? ⟨g4 + 1, 0, none⟩ = some (.int .i64 0) ∧ w7.drew.cell? ⟨g4 + 1, 1, none⟩ = some (.string firstD) ∧ w7.drew.cell? ⟨g4 + 1, 2, none⟩ = some (.slice (some ⟨g4, 0, none⟩) 1 1) ∧
      w7.drew.cell? ⟨g5, 0, none⟩ = some (.int .i64 0) ∧ w7.drew.cell? ⟨g5, 1, none⟩ = some (.string k) ∧ w7.drew.cell? ⟨g5, 2, none⟩ = some (.slice none 0 0) ∧ Below w7.heap.size w7 w7.drew ∧ w7.heap.size ≤ w7.drew.heap.size :=
    ⟨key Z1.1, key Z1.2.1, key Z1.2.2, key (Q2.cell 0 _ rfl), key (Q2.cell 1 _ rfl), key (Q2.cell 2 _ rfl), Q3.cell 0 _ rfl, Q3.cell 1 _ rfl, Q3.cell 2 _ rfl, (Below.refl _ _).drew, Nat.le_refl _⟩
  have tD : (firstD.toList == firstD.toList) = true := by simp
  obtain ⟨T, hT⟩ : ∃ T, textB 7 k = T := ⟨_, rfl⟩
  have tT : (T.toList == T.toList) = true := by simp
  obtain ⟨r, hr⟩ : ∃ r, (k.toList == firstD.toList) = r := ⟨_, rfl⟩
  have tr : (r == r) = true := by simp
  have HHT := Lib.hid (fun wx (hb : Below w7.heap.size w7 wx) => HT1.out wx (B7.out.trans (hb.mono B7.out.size)))
  have H1 := Lib.hid (fun wx (hb : Below w7.heap.size w7 wx) => chz_is true ⟨#[115, 101, 101, 100]⟩ (i : Int) (n : Int) firstD (.slice none 0 0) [] (by simp) wx (sigs_nil _) ⟨by simp, by simp⟩ (HHT.out wx hb))
  have H2 := Lib.hid (fun wx (hb : Below w7.heap.size w7 wx) => chz_is false ⟨#[115, 101, 101, 100]⟩ (i : Int) (n : Int) firstD (.slice (some ⟨g4, 0, none⟩) 1 1) [(f, ts)] (by simp) wx (HSG.out.later hb) ⟨by simp, fun j hj => by
    have : j = 0 := by simpa using hj
    subst this
    have := HN.out
    show ts.length ≤ 1000
    omega⟩ (HHT.out wx hb))
  have H3 := Lib.hid (fun wx (hb : Below w7.heap.size w7 wx) => chz_is r ⟨#[115, 101, 101, 100]⟩ (i : Int) (n : Int) k (.slice none 0 0) [] (by rw [← hr, bs_beq]; simp) wx (sigs_nil _) ⟨by simp, by simp⟩ (HHT.out wx hb))
  have H4 := Lib.hid (fun wx => hT ▸ text5_any 7 k HK.out wx)
  have H5 := Lib.hid (fun wx => hT ▸ rtext5_any 7 k HK.out wx)
  clear Z1 Q1 Q2 Q3 Y1 Y2 key hg5 hT BX
  go_region_held3 (fun w' => w'.cell? ⟨g3, 0, none⟩ = some (.int .i64 0) ∧ w'.cell? ⟨g3, 1, none⟩ = some (.string firstD) ∧ w'.cell? ⟨g3, 2, none⟩ = some (.slice none 0 0) ∧ w'.cell? ⟨g4 + 1, 0, none⟩ = some (.int .i64 0) ∧ w'.cell? ⟨g4 + 1, 1, none⟩ = some (.string firstD) ∧ w'.cell? ⟨g4 + 1, 2, none⟩ = some (.slice (some ⟨g4, 0, none⟩) 1 1) ∧
      w'.cell? ⟨g5, 0, none⟩ = some (.int .i64 0) ∧ w'.cell? ⟨g5, 1, none⟩ = some (.string k) ∧ w'.cell? ⟨g5, 2, none⟩ = some (.slice none 0 0) ∧ Below w7.heap.size w7 w' ∧ w7.heap.size ≤ w'.heap.size)
    (first | exact hst | exact hk)
    (first
      | (go_at_call 23; refine (rfirst_any _).mono ?_; rintro e w8 ⟨rfl, hb8⟩; have hk := keep9 (by assumption) hb8)
      | (go_at_call 12; (with_reducible refine (H1.out _ (nine_below (by assumption))).mono ?_); rintro e w8 ⟨rfl, hb8⟩; have hk := keep9 (by assumption) hb8)
      | (go_at_call 12; (with_reducible refine (H2.out _ (nine_below (by assumption))).mono ?_); rintro e w8 ⟨rfl, hb8⟩; have hk := keep9 (by assumption) hb8)
      | (go_at_call 12; (with_reducible refine (H3.out _ (nine_below (by assumption))).mono ?_); rintro e w8 ⟨rfl, hb8⟩; have hk := keep9 (by assumption) hb8)
      | (go_at_call 24; refine (H4.out _).mono ?_; rintro e w8 ⟨rfl, hb8⟩; have hk := keep9 (by assumption) hb8)
      | (go_at_call 25; refine (H5.out _).mono ?_; rintro e w8 ⟨rfl, hb8⟩; have hk := keep9 (by assumption) hb8))
  have BE := Lib.hid (nine_below hk)
  clear hst
  go_wp2_with fail
  go_ret
  exact ⟨by first | rfl | simp, HG.out ▸ B1.out.trans ((B7.out.trans (BE.out.mono B7.out.size)).mono B1.out.size)⟩
theorem lawf_card (f : Int) (tv : Value) (ts : List ByteArray) (k : ByteArray) (a b : Nat) (w : World) (hv : StrsAt w tv ts) (hn : ts.length ≤ 9223372036854775807) (ha : a < 256) (hb : b < 256) (hT : Tabs w) :
    Calls Tryd.prog 7 #[.agg #[.int .i64 f, tv], .string k, .agg #[.int .u8 (a : Int), .int .u8 (b : Int)]] w fun e w' => e = .returned (.bool true) ∧ Below w.heap.size w w' := by
  rcases hf : fewSig ts with _ | _
  · exact lawf_big f tv ts k a b w hv hn (Or.inl hf) hT
  · by_cases hk : k.size ≤ 50
    · exact lawf_in f tv ts k a b w hv hf hk ha hb hT
    · exact lawf_big f tv ts k a b w hv hn (Or.inr ⟨hf, by omega⟩) hT
end Go.Proofs.YtigoaokpodggcaaDoor
