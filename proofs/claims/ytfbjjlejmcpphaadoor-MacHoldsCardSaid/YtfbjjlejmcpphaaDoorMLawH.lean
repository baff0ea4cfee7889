/-
  The walk of the law MacHolds.
-/
import Derived.Test.YtfbjjlejmcpphaaDoorMLawS
import Derived.Test.YtfbjjlejmcpphaaDoorWFewS
open Go Go.RowKit
namespace MM
open WW BB
/-- the signature is told to be none without a look at its tags -/
def BadH (d n f : Int) (m : Int) : Prop := n < 1 ∨ ¬ n < 1 ∧ (7 < n ∨ ¬ 7 < n ∧ (d < 0 ∨ ¬ d < 0 ∧ (n ≤ d ∨ ¬ n ≤ d ∧ (f < 0 ∨ ¬ f < 0 ∧ (n ≤ f ∨ ¬ n ≤ f ∧ m ≠ n)))))
theorem badH_no {d n f : Int} {ts : List ByteArray} (h : BadH d n f (ts.length : Int)) : (amongB d n && (amongB f n && shapedB ts n)) = false := by
  unfold BadH at h
  by_cases h1 : amongB d n = true
  · by_cases h2 : amongB f n = true
    · obtain ⟨a1, a2, a3, a4⟩ := among_of h1
      obtain ⟨_, _, a5, a6⟩ := among_of h2
      have : shapedB ts n = false := by
        have : ¬ (ts.length : Int) = n := by omega
        simp [shapedB, this]
      rw [this, Bool.and_false, Bool.and_false]
    · rw [show amongB f n = false by simpa using h2, Bool.false_and, Bool.and_false]
  · rw [show amongB d n = false by simpa using h1, Bool.false_and]
theorem badH_not {d n f m : Int} (h : ¬ BadH d n f m) : amongB d n = true ∧ amongB f n = true ∧ m = n := by
  unfold BadH at h
  have h1 : 1 ≤ n ∧ n ≤ 7 ∧ 0 ≤ d ∧ d < n ∧ 0 ≤ f ∧ f < n ∧ m = n := by omega
  exact ⟨among_mk h1.1 h1.2.1 h1.2.2.1 h1.2.2.2.1, among_mk h1.1 h1.2.1 h1.2.2.2.2.1 h1.2.2.2.2.2.1, h1.2.2.2.2.2.2⟩
theorem shaped_bad (ts : List ByteArray) (i : Nat) (h : i < ts.length) (hx : ¬ (ts.getD i ⟨#[]⟩).size = 16) : shapedB ts (ts.length : Int) = false := by
  have : ts.all (fun t => decide (t.size = 16)) = false := by
    rw [List.all_eq_false]
    refine ⟨ts[i], List.getElem_mem h, ?_⟩
    simpa [List.getD, List.getElem?_eq_getElem h] using hx
  unfold shapedB
  rw [this, Bool.and_false]
end MM
namespace Go.Proofs.YtfbjjlejmcpphaaDoor
open MM WW BB
set_option maxRecDepth 100000 in
set_option maxHeartbeats 8000000 in
theorem mholds_bad (s : ByteArray) (f : Int) (tv : Value) (ts : List ByteArray) (d n : Int) (w : World) (hv : StrsAt w tv ts) (hn : ts.length ≤ 9223372036854775807) (hs : s.size ≤ 60) (hf : fewSig ts = true) (hb : BadH d n f (ts.length : Int)) :
    Calls Tryd.prog 5 #[.string s, .agg #[.int .i64 f, tv], .agg #[.int .i64 d, .int .i64 n]] w fun e w' => e = .returned (.bool true) ∧ Below w.heap.size w w' := by
  have t1 : ¬ (60 : Int) < (s.size : Int) := by omega
  have HV := Lib.hid hv
  have HN := Lib.hid hn
  have HB := Lib.hid hb
  have HF := Lib.hid (fun wx (hb : Below w.heap.size w wx) => hf ▸ fewsig_any f tv ts wx (hv.later hb) hn)
  obtain ⟨a0, cap, rfl, hx⟩ := hv
  clear hn hs hf hb hx
  go_enter Tryd.func5, Tryd.ntmps5
  go_wp2_with fail
  obtain ⟨g, hg⟩ : ∃ g, w.heap.size = g := ⟨_, rfl⟩
  have X0 := box_mk w [.int .i64 f, .slice a0 ts.length cap] 29
  have Y0 := box_mk (w.alloc (.cells #[.int .i64 f, .slice a0 ts.length cap] 29)) [.int .i64 d, .int .i64 n] 22
  have X1 := X0.on Y0.below
  rw [show (w.alloc (.cells #[.int .i64 f, .slice a0 ts.length cap] 29)).heap.size = w.heap.size + 1 by simp] at Y0
  rw [hg] at X1 Y0 ⊢
  have X := Lib.hid X1
  have Y : Hid (BoxAt w (g + 1) [.int .i64 d, .int .i64 n] _) := Lib.hid ⟨X1.below, Y0.lt, Y0.cell⟩
  have HG := Lib.hid hg
  clear X0 X1 Y0 hg
  have X' := X.out
  have Y' := Y.out
  clear X Y
  revert X' Y'
  generalize (w.alloc (.cells #[.int .i64 f, .slice a0 ts.length cap] 29)).alloc (.cells [Value.int .i64 d, .int .i64 n].toArray 22) = wa
  intro X' Y'
  have X := Lib.hid X'
  have Y := Lib.hid Y'
  clear X' Y'
  refine (awake3_any wa).mono ?_
  rintro e w1 ⟨rfl, hb1⟩
  have X1 := Lib.hid (X.out.on hb1)
  have Y1 := Lib.hid (Y.out.on hb1)
  clear X Y hb1
  have c0 := X1.out.cell 0 _ rfl
  have c1 := X1.out.cell 1 _ rfl
  go_wp2_with fail
  refine (HF.out _ X1.out.below).mono ?_
  rintro e w2 ⟨rfl, hb2⟩
  have X2 := Lib.hid (X1.out.on hb2)
  have Y2 := Lib.hid (Y1.out.on hb2)
  clear X1 Y1 hb2 c0 c1 HF
  have c0 := Y2.out.cell 0 _ rfl
  have c1 := Y2.out.cell 1 _ rfl
  have d0 := X2.out.cell 0 _ rfl
  have d1 := X2.out.cell 1 _ rfl
  go_wp2_with fail
  go_quiet (fail)
  have X3 : ∀ m, Hid (BoxAt w g [.int .i64 f, .slice a0 ts.length cap] (w2.drewN m)) := fun m => Lib.hid (X2.out.on (below_drewN (Below.refl _ _) m))
  clear X2 Y2
  go_wp2_with fail
  refine (holds_no s d n s f _ ts _ (HV.out.later (X3 _).out.below) HN.out (badH_no HB.out)).mono ?_
  rintro e w3 ⟨rfl, hb3⟩
  have X4 := Lib.hid ((X3 _).out.on hb3)
  clear hb3 X3 c0 c1 d0 d1
  have d0 := X4.out.cell 0 _ rfl
  have d1 := X4.out.cell 1 _ rfl
  rcases HB.out with h | ⟨h1, h | ⟨h2, h | ⟨h3, h | ⟨h4, h | ⟨h5, h | ⟨h6, h⟩⟩⟩⟩⟩⟩
  all_goals
    clear HB
    try replace h : ((ts.length : Int) != n) = true := by first | (rw [bne_iff_ne]; exact h) | fail
    go_wp2_with fail
    go_ret
    exact ⟨rfl, HG.out ▸ X4.out.below⟩
set_option maxRecDepth 100000 in
set_option maxHeartbeats 8000000 in
theorem mholds_good (s : ByteArray) (f : Int) (tv : Value) (ts : List ByteArray) (d n : Int) (w : World) (hv : StrsAt w tv ts) (hn : ts.length ≤ 9223372036854775807) (hs : s.size ≤ 60) (hf : fewSig ts = true) (hA : amongB d n = true) (hF : amongB f n = true) (hl : (ts.length : Int) = n) (hT : Tabs w) :
    Calls Tryd.prog 5 #[.string s, .agg #[.int .i64 f, tv], .agg #[.int .i64 d, .int .i64 n]] w fun e w' => e = .returned (.bool true) ∧ Below w.heap.size w w' := by
  have t1 : ¬ (60 : Int) < (s.size : Int) := by omega
  obtain ⟨n1, n7, d0, dn⟩ := among_of hA
  obtain ⟨_, _, f0, fn⟩ := among_of hF
  subst hl
  obtain ⟨k, rfl⟩ := Int.eq_ofNat_of_zero_le d0
  have HV := Lib.hid hv
  have HN := Lib.hid hn
  have HA := Lib.hid hA
  have HFA := Lib.hid hF
  have HT := Lib.hid hT
  have HS := Lib.hid (show s.size ≤ 1000 by omega)
  have HL := Lib.hid (show s.size ≤ 100000 by omega)
  have HK := Lib.hid (show k < ts.length by omega)
  have H7 := Lib.hid (show ts.length ≤ 7 by omega)
  have m1 : ¬ (ts.length : Int) < 1 := by omega
  have m2 : ¬ (7 : Int) < (ts.length : Int) := by omega
  have m3 : ¬ (k : Int) < 0 := by omega
  have m4 : ¬ (ts.length : Int) ≤ (k : Int) := by omega
  have m5 : ¬ f < 0 := by omega
  have m6 : ¬ (ts.length : Int) ≤ f := by omega
  have HF := Lib.hid (fun wx (hb : Below w.heap.size w wx) => hf ▸ fewsig_any f tv ts wx (hv.later hb) hn)
  obtain ⟨a0, cap, rfl, hx⟩ := hv
  clear hn hs hf hT hA hF n1 n7 d0 dn f0 fn
  rcases hx with hx | ⟨gb, off, rfl, hbw, hcell⟩
  · have := HK.out; rw [hx] at this; simp at this
  have HCELL := Lib.hid hcell
  have HBW := Lib.hid hbw
  clear hcell hbw
  obtain ⟨X, hX⟩ : ∃ X, holdsB s (k : Int) (ts.length : Int) s f ts = X := ⟨_, rfl⟩
  have HX := Lib.hid hX
  clear hX
  go_enter Tryd.func5, Tryd.ntmps5
  go_wp2_with fail
  obtain ⟨g, hg⟩ : ∃ g, w.heap.size = g := ⟨_, rfl⟩
  have X0 := box_mk w [.int .i64 f, .slice (some ⟨gb, off, none⟩) ts.length cap] 29
  have Y0 := box_mk (w.alloc (.cells #[.int .i64 f, .slice (some ⟨gb, off, none⟩) ts.length cap] 29)) [.int .i64 (k : Int), .int .i64 (ts.length : Int)] 22
  have X1 := X0.on Y0.below
  rw [show (w.alloc (.cells #[.int .i64 f, .slice (some ⟨gb, off, none⟩) ts.length cap] 29)).heap.size = w.heap.size + 1 by simp] at Y0
  rw [hg] at X1 Y0 ⊢
  have X := Lib.hid X1
  have Y : Hid (BoxAt w (g + 1) [.int .i64 (k : Int), .int .i64 (ts.length : Int)] _) := Lib.hid ⟨X1.below, Y0.lt, Y0.cell⟩
  have HG := Lib.hid hg
  clear X0 X1 Y0 hg
  have X' := X.out
  have Y' := Y.out
  clear X Y
  revert X' Y'
  generalize (w.alloc (.cells #[.int .i64 f, .slice (some ⟨gb, off, none⟩) ts.length cap] 29)).alloc (.cells [Value.int .i64 (k : Int), .int .i64 (ts.length : Int)].toArray 22) = wa
  intro X' Y'
  have X := Lib.hid X'
  have Y := Lib.hid Y'
  clear X' Y'
  refine (awake3_any wa).mono ?_
  rintro e w1 ⟨rfl, hb1⟩
  have X1 := Lib.hid (X.out.on hb1)
  have Y1 := Lib.hid (Y.out.on hb1)
  clear X Y hb1
  have c0 := X1.out.cell 0 _ rfl
  have c1 := X1.out.cell 1 _ rfl
  go_wp2_with fail
  refine (HF.out _ X1.out.below).mono ?_
  rintro e w2 ⟨rfl, hb2⟩
  have X2 := Lib.hid (X1.out.on hb2)
  have Y2 := Lib.hid (Y1.out.on hb2)
  clear X1 Y1 hb2 c0 c1 HF
  have c0 := Y2.out.cell 0 _ rfl
  have c1 := Y2.out.cell 1 _ rfl
  have d0 := X2.out.cell 0 _ rfl
  have d1 := X2.out.cell 1 _ rfl
  go_wp2_with fail
  go_quiet (fail)
  have X3 : ∀ m, Hid (BoxAt w g [.int .i64 f, .slice (some ⟨gb, off, none⟩) ts.length cap] (w2.drewN m)) := fun m => Lib.hid (X2.out.on (below_drewN (Below.refl _ _) m))
  clear X2 Y2
  go_wp2_with fail
  refine (holds_is s (k : Int) (ts.length : Int) s f _ ts X HX.out _ (HV.out.later (X3 _).out.below) HN.out HS.out HL.out (HT.out.below (X3 _).out.below (Nat.le_refl _))).mono ?_
  rintro e w3 ⟨rfl, hb3⟩
  have X4 := Lib.hid ((X3 _).out.on hb3)
  clear hb3 X3 c0 c1 d0 d1
  have d0 := X4.out.cell 0 _ rfl
  have d1 := X4.out.cell 1 _ rfl
  go_wp2_with fail
  go_loop [10] (fun v => ∃ i : Nat, i ≤ ts.length ∧ v = .int .i64 (i : Int) ∧ (ts.take i).all (fun t => decide (t.size = 16)) = true) (fun v => ts.length - (intOf v).toNat)
  case atStart => exact ⟨0, Nat.zero_le _, rfl, rfl⟩
  case round =>
    obtain ⟨i, hi, rfl, hall⟩ := hrel
    have HALL := Lib.hid hall
    have i0 : (0 : Int) ≤ (i : Int) := by omega
    have ib : (i : Int) ≤ 7 := by have := H7.out; omega
    clear hall
    by_cases hlt : i < ts.length
    · have hlt' : (i : Int) < (ts.length : Int) := by omega
      have hcl := (X4.out.below.cell (p := ⟨gb, off + i, none⟩) HBW.out).trans (HCELL.out i hlt)
      have HSN := Lib.hid (all_take_snoc (fun t : ByteArray => decide (t.size = 16)) ts ⟨#[]⟩ i hlt)
      have HSH := Lib.hid (fun h => shaped_bad ts i hlt h)
      obtain ⟨u, hu⟩ : ∃ u, ts.getD i ⟨#[]⟩ = u := ⟨_, rfl⟩
      rw [hu] at hcl HSN HSH
      have HLT := Lib.hid hlt
      clear hu hlt hi
      by_cases h16 : u.size = 16
      · have t2 : ((u.size : Int) != 16) = false := by rw [h16]; rfl
        have H16 := Lib.hid h16
        clear h16
        go_wp2_with fail
        go_round
        case rel => exact ⟨i + 1, by have := HLT.out; omega, by go_num, by rw [HSN.out, HALL.out]; simpa using H16.out⟩
        case measure => have := HLT.out; simp [intOf]; omega
      · have t2 : ((u.size : Int) != 16) = true := by rw [bne_iff_ne]; omega
        have hXf : X = false := by
          rw [← HX.out]
          unfold holdsB
          rw [HSH.out h16]
          simp
        subst hXf
        clear h16 HSH HSN
        go_wp2_with fail
        go_ret
        exact ⟨rfl, HG.out ▸ X4.out.below⟩
    · obtain rfl : i = ts.length := by omega
      have hlt' : ¬ (ts.length : Int) < (ts.length : Int) := by omega
      have HXV : Hid (X = ((ts.getD k ⟨#[]⟩).toList == (tagB s f (k : Int) s).toList)) := Lib.hid (by
        rw [← HX.out]
        have ha := HALL.out
        rw [List.take_length] at ha
        unfold holdsB
        rw [HA.out, HFA.out, Int.toNat_natCast, show shapedB ts (ts.length : Int) = true by unfold shapedB; rw [ha]; simp]
        rfl)
      have c2 := (X4.out.below.cell (p := ⟨gb, off + k, none⟩) HBW.out).trans (HCELL.out k HK.out)
      obtain ⟨u, hu⟩ : ∃ u, ts.getD k ⟨#[]⟩ = u := ⟨_, rfl⟩
      obtain ⟨G, hG⟩ : ∃ G, tagB s f (k : Int) s = G := ⟨_, rfl⟩
      have HXV' := HXV.out
      rw [hu, hG] at HXV'
      rw [hu] at c2
      subst HXV'
      have HGG := Lib.hid hG
      clear hi hlt HXV hu hG
      have hb4 := X4.out.below
      have hz4 := hb4.size
      obtain ⟨B, hB⟩ : ∃ B, w.heap.size = B := ⟨_, rfl⟩
      have HB := Lib.hid hB
      rw [hB] at hb4 hz4
      have hk' : (k : Int) < (ts.length : Int) := by have := HK.out; omega
      have hk0 : (0 : Int) ≤ (k : Int) := by omega
      have e1 : (u.toList == G.toList) == (u.toList == G.toList) := by simp
      have hst : w3.drew.cell? ⟨g, 0, none⟩ = some (.int .i64 f) ∧ w3.drew.cell? ⟨g, 1, none⟩ = some (.slice (some ⟨gb, off, none⟩) ts.length cap) ∧ w3.drew.cell? ⟨gb, off + k, none⟩ = some (.string u) ∧ Below B w w3.drew ∧ B ≤ w3.drew.heap.size := ⟨d0, d1, c2, hb4.drew, hz4⟩
      clear hb4 hz4 d0 d1 c2 hB
      go_wp2_with fail
      go_region_held3 (fun w' => w'.cell? ⟨g, 0, none⟩ = some (.int .i64 f) ∧ w'.cell? ⟨g, 1, none⟩ = some (.slice (some ⟨gb, off, none⟩) ts.length cap) ∧ w'.cell? ⟨gb, off + k, none⟩ = some (.string u) ∧ Below B w w' ∧ B ≤ w'.heap.size)
        (first | exact hst | exact hk2)
        ((go_at_call 11; refine (rtag_is s f (k : Int) s G HGG.out HS.out HL.out _).mono ?_; rintro e w4 ⟨rfl, hb4⟩; have hk2 := keepG (w := w) (g := g) (B := B) (b := gb) (i := off + k) (f := f) (tv := .slice (some ⟨gb, off, none⟩) ts.length cap) (u := u) (by assumption) hb4))
      go_wp2_with fail
      go_ret
      exact ⟨by simp, by rw [HB.out]; exact hk2.2.2.2.1⟩
set_option maxRecDepth 100000 in
set_option maxHeartbeats 4000000 in
theorem mholds_many (s : ByteArray) (f : Int) (tv : Value) (ts : List ByteArray) (d n : Int) (w : World) (hv : StrsAt w tv ts) (hn : ts.length ≤ 9223372036854775807) (hs : s.size ≤ 60) (hf : fewSig ts = false) :
    Calls Tryd.prog 5 #[.string s, .agg #[.int .i64 f, tv], .agg #[.int .i64 d, .int .i64 n]] w fun e w' => e = .returned (.bool true) ∧ Below w.heap.size w w' := by
  have t1 : ¬ (60 : Int) < (s.size : Int) := by omega
  have HF := Lib.hid (fun wx (hb : Below w.heap.size w wx) => hf ▸ fewsig_any f tv ts wx (hv.later hb) hn)
  obtain ⟨a0, cap, rfl, hx⟩ := hv
  clear hn hs hf hx
  go_enter Tryd.func5, Tryd.ntmps5
  go_wp2_with fail
  obtain ⟨g, hg⟩ : ∃ g, w.heap.size = g := ⟨_, rfl⟩
  have X0 := box_mk w [.int .i64 f, .slice a0 ts.length cap] 29
  have Y0 := box_mk (w.alloc (.cells #[.int .i64 f, .slice a0 ts.length cap] 29)) [.int .i64 d, .int .i64 n] 22
  have X1 := X0.on Y0.below
  rw [show (w.alloc (.cells #[.int .i64 f, .slice a0 ts.length cap] 29)).heap.size = w.heap.size + 1 by simp] at Y0
  rw [hg] at X1 Y0 ⊢
  have X := Lib.hid X1
  have Y : Hid (BoxAt w (g + 1) [.int .i64 d, .int .i64 n] _) := Lib.hid ⟨X1.below, Y0.lt, Y0.cell⟩
  have HG := Lib.hid hg
  clear X0 X1 Y0 hg
  have X' := X.out
  have Y' := Y.out
  clear X Y
  revert X' Y'
  generalize (w.alloc (.cells #[.int .i64 f, .slice a0 ts.length cap] 29)).alloc (.cells [Value.int .i64 d, .int .i64 n].toArray 22) = wa
  intro X' Y'
  have X := Lib.hid X'
  have Y := Lib.hid Y'
  clear X' Y'
  refine (awake3_any wa).mono ?_
  rintro e w1 ⟨rfl, hb1⟩
  have X1 := Lib.hid (X.out.on hb1)
  have Y1 := Lib.hid (Y.out.on hb1)
  clear X Y hb1
  have c0 := X1.out.cell 0 _ rfl
  have c1 := X1.out.cell 1 _ rfl
  go_wp2_with fail
  refine (HF.out _ X1.out.below).mono ?_
  rintro e w2 ⟨rfl, hb2⟩
  have X2 := Lib.hid (X1.out.on hb2)
  have Y2 := Lib.hid (Y1.out.on hb2)
  clear X1 Y1 hb2 c0 c1 HF
  clear Y2
  go_wp2_with fail
  refine (awake3_any _).mono ?_
  rintro e w3 ⟨rfl, hb3⟩
  have X3 := Lib.hid (X2.out.on hb3)
  clear X2 hb3
  go_wp2_with fail
  go_ret
  exact ⟨rfl, HG.out ▸ X3.out.below⟩
set_option maxRecDepth 100000 in
set_option maxHeartbeats 4000000 in
theorem mholds_walk (s : ByteArray) (f : Int) (tv : Value) (ts : List ByteArray) (d n : Int) (w : World) (hv : StrsAt w tv ts) (hn : ts.length ≤ 9223372036854775807) (hT : Tabs w) :
    Calls Tryd.prog 5 #[.string s, .agg #[.int .i64 f, tv], .agg #[.int .i64 d, .int .i64 n]] w fun e w' => e = .returned (.bool true) ∧ Below w.heap.size w w' := by
  by_cases hs : s.size ≤ 60
  · rcases hf : fewSig ts with _ | _
    · exact mholds_many s f tv ts d n w hv hn hs hf
    · by_cases hb : BadH d n f (ts.length : Int)
      · exact mholds_bad s f tv ts d n w hv hn hs hf hb
      · obtain ⟨h1, h2, h3⟩ := badH_not hb
        exact mholds_good s f tv ts d n w hv hn hs hf h1 h2 h3 hT
  · have t1 : (60 : Int) < (s.size : Int) := by omega
    obtain ⟨a0, cap, rfl, hx⟩ := hv
    clear hn hs hx hT
    go_enter Tryd.func5, Tryd.ntmps5
    go_wp2_with fail
    have B0 := Lib.hid (((Below.refl w.heap.size w).alloc (Nat.le_refl _) (.cells #[.int .i64 f, .slice a0 ts.length cap] 29)).alloc (by simp) (.cells #[.int .i64 d, .int .i64 n] 22))
    generalize (w.alloc (.cells #[.int .i64 f, .slice a0 ts.length cap] 29)).alloc (.cells #[.int .i64 d, .int .i64 n] 22) = w0 at *
    refine (awake3_any w0).mono ?_
    rintro e w1 ⟨rfl, hb1⟩
    have B1 := Lib.hid (B0.out.trans (hb1.mono B0.out.size))
    clear hb1 B0
    go_wp2_with fail
    refine (awake3_any w1).mono ?_
    rintro e w2 ⟨rfl, hb2⟩
    have B2 := Lib.hid (B1.out.trans (hb2.mono B1.out.size))
    clear hb2 B1
    go_wp2_with fail
    go_ret
    exact ⟨rfl, B2.out⟩
end Go.Proofs.YtfbjjlejmcpphaaDoor
