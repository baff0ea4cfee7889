/-
  The walk of the law CertShares.
-/
import Derived.Test.YtigoaokpodggcaaDoorKEHolds
import Derived.Test.YtigoaokpodggcaaDoorKLaid
import Derived.Test.YtigoaokpodggcaaDoorKERefH
import Derived.Test.YtigoaokpodggcaaDoorKELawH
import Derived.Test.YtigoaokpodggcaaDoorKWCutR
import Derived.Test.YtigoaokpodggcaaDoorKWTwo
section
open Go Go.RowKit
namespace CC
open MM WW BB
theorem rises_at (l : List (Int × List ByteArray)) : ∀ n, risesTo l n = true → ∀ i j, i < j → j < n → (l.getD i (0, [])).1 < (l.getD j (0, [])).1
  | 0, _, i, j, _, h => by omega
  | n + 1, h, i, j, hij, hj => by
    have h : (risesTo l n && (decide (n = 0) || decide ((l.getD (n - 1) (0, [])).1 < (l.getD n (0, [])).1))) = true := h
    rw [Bool.and_eq_true, Bool.or_eq_true, decide_eq_true_eq, decide_eq_true_eq] at h
    obtain ⟨h1, h2⟩ := h
    by_cases hjn : j = n
    · subst hjn
      have h2 : (l.getD (j - 1) (0, [])).1 < (l.getD j (0, [])).1 := by
        rcases h2 with h2 | h2
        · omega
        · exact h2
      by_cases hi : i = j - 1
      · subst hi; exact h2
      · exact Int.lt_trans (rises_at l j h1 i (j - 1) (by omega) (by omega)) h2
    · exact rises_at l n h1 i j hij (by omega)
theorem rises_pair {l : List (Int × List ByteArray)} (h : rises l = true) : l.Pairwise (fun p q => p.1 < q.1) := by
  rw [List.pairwise_iff_getElem]
  intro i j hi hj hij
  have := rises_at l l.length h i j hij hj
  simpa [List.getD, List.getElem?_eq_getElem hi, List.getElem?_eq_getElem hj] using this
theorem right_rises {v : Int} {k : ByteArray} {l : List (Int × List ByteArray)} (h : rightCert v k l = true) : rises l = true := by
  unfold rightCert at h
  simp only [Bool.and_eq_true, decide_eq_true_eq] at h
  obtain ⟨_, h5⟩ := h
  rw [okTo_iff] at h5
  exact h5.2
theorem good_pair (s : ByteArray) (d n v : Int) (k : ByteArray) (l : List (Int × List ByteArray)) : (goodL s d n v k l).Pairwise (· < ·) := by
  unfold goodL
  split
  · rename_i h
    unfold goodTo
    rw [List.take_length, List.pairwise_map]
    exact (rises_pair (right_rises h)).sublist List.filter_sublist
  · exact List.Pairwise.nil
theorem good_mem {s : ByteArray} {d n v : Int} {k : ByteArray} {l : List (Int × List ByteArray)} {u : Int} (h : u ∈ goodL s d n v k l) : 0 ≤ u ∧ u < n := by
  unfold goodL at h
  split at h
  · unfold goodTo at h
    rw [List.take_length, List.mem_map] at h
    obtain ⟨p, hp, rfl⟩ := h
    rw [List.mem_filter] at hp
    obtain ⟨_, hp⟩ := hp
    unfold holdsB at hp
    simp only [Bool.and_eq_true] at hp
    obtain ⟨_, _, h1, h2⟩ := among_of hp.2.1
    exact ⟨h1, h2⟩
  · cases h
/-- two quorums' good ones have more in common than the faults -/
theorem quorums_share {s : ByteArray} {d d' v v' : Int} {n : Nat} {k k' : ByteArray} {l l' : List (Int × List ByteArray)} (n1 : 1 ≤ n) (h : quorumI (n : Int) ≤ ((goodL s d n v k l).length : Int)) (h' : quorumI (n : Int) ≤ ((goodL s d' n v' k' l').length : Int)) :
    faultsI (n : Int) < (bothI (goodL s d n v k l) (goodL s d' n v' k' l') : Int) := by
  have hx := pair_nodup (good_pair s d n v k l)
  have hy := pair_nodup (good_pair s d' n v' k' l')
  have hs : ((goodL s d n v k l).filter fun u => decide (u ∈ goodL s d' n v' k' l')).Nodup := hx.sublist List.filter_sublist
  have hm : ∀ u, u ∈ ((goodL s d n v k l).filter fun u => decide (u ∈ goodL s d' n v' k' l')) ↔ u ∈ goodL s d n v k l ∧ u ∈ goodL s d' n v' k' l' := fun u => by rw [List.mem_filter]; simp
  have h1 := shared_many (n := (n : Int)) hx hy hm (fun u hu => good_mem hu) (fun u hu => good_mem hu)
  have h2 := both_eq hx hs hm
  unfold quorumI at h h'
  unfold faultsI at h h' ⊢
  have hn : ¬ (n : Int) < 1 := by omega
  rw [if_neg hn] at h h' ⊢
  rw [if_neg hn] at h h'
  omega
end CC
end
section
open Go Go.RowKit
namespace CC
open MM WW BB
/-- two certificates' cells -/
theorem keep6c {base g1 g2 : Nat} {p0 p1 p2 q0 q1 q2 : Value} {w W w1 : World} (h : W.cell? ⟨g1, 0, none⟩ = some p0 ∧ W.cell? ⟨g1, 1, none⟩ = some p1 ∧ W.cell? ⟨g1, 2, none⟩ = some p2 ∧ W.cell? ⟨g2, 0, none⟩ = some q0 ∧ W.cell? ⟨g2, 1, none⟩ = some q1 ∧ W.cell? ⟨g2, 2, none⟩ = some q2 ∧
    Below base w W ∧ base ≤ W.heap.size) (hb : Below W.heap.size W w1) :
    w1.cell? ⟨g1, 0, none⟩ = some p0 ∧ w1.cell? ⟨g1, 1, none⟩ = some p1 ∧ w1.cell? ⟨g1, 2, none⟩ = some p2 ∧ w1.cell? ⟨g2, 0, none⟩ = some q0 ∧ w1.cell? ⟨g2, 1, none⟩ = some q1 ∧ w1.cell? ⟨g2, 2, none⟩ = some q2 ∧ Below base w w1 ∧ base ≤ w1.heap.size := by
  obtain ⟨h0, h1, h2, h3, h4, h5, h9, h10⟩ := h
  have key : ∀ {g o : Nat} {v : Value}, W.cell? ⟨g, o, none⟩ = some v → w1.cell? ⟨g, o, none⟩ = some v := fun {g o v} hc => (hb.cell (p := ⟨g, o, none⟩) (World.block_lt_of_cell? W _ hc)).trans hc
  exact ⟨key h0, key h1, key h2, key h3, key h4, key h5, h9.trans (hb.mono h10), Nat.le_trans h10 hb.size⟩
theorem six_below {base g1 g2 : Nat} {p0 p1 p2 q0 q1 q2 : Value} {w W : World} (h : W.cell? ⟨g1, 0, none⟩ = some p0 ∧ W.cell? ⟨g1, 1, none⟩ = some p1 ∧ W.cell? ⟨g1, 2, none⟩ = some p2 ∧ W.cell? ⟨g2, 0, none⟩ = some q0 ∧ W.cell? ⟨g2, 1, none⟩ = some q1 ∧ W.cell? ⟨g2, 2, none⟩ = some q2 ∧
    Below base w W ∧ base ≤ W.heap.size) : Below base w W := h.2.2.2.2.2.2.1
theorem certHolds_more {s : ByteArray} {d n v : Int} {k : ByteArray} {l : List (Int × List ByteArray)} (h0 : ¬ v < 1) (h : certHolds s d n v k l = true) : quorumI n ≤ ((goodL s d n v k l).length : Int) := by
  unfold certHolds at h
  rw [if_neg (by omega)] at h
  exact of_decide_eq_true h
/-- what the cells of a box are, wherever nothing older is turned -/
theorem box3_on {w0 : World} {a b c : Value} {g : Nat} (h : BoxAt w0 g [a, b, c] w0) : ∀ wx, Below w0.heap.size w0 wx → wx.cell? ⟨g, 0, none⟩ = some a ∧ wx.cell? ⟨g, 1, none⟩ = some b ∧ wx.cell? ⟨g, 2, none⟩ = some c := fun _ hb => ⟨box_on h hb 0 _ rfl, box_on h hb 1 _ rfl, box_on h hb 2 _ rfl⟩
theorem blk3_on {w0 : World} {v : Value} {k : ByteArray} {s : Value} {g : Nat} (h : Blk w0 g 3 (cC v k s)) : ∀ wx, Below w0.heap.size w0 wx → wx.cell? ⟨g, 0, none⟩ = some v ∧ wx.cell? ⟨g, 1, none⟩ = some (.string k) ∧ wx.cell? ⟨g, 2, none⟩ = some s := fun wx hb =>
  have hk := h.below hb h.lt
  ⟨hk.get 0 (by omega), hk.get 1 (by omega), hk.get 2 (by omega)⟩
end CC
namespace Go.Proofs.YtigoaokpodggcaaDoor
open CC MM WW BB
set_option maxRecDepth 100000 in
set_option maxHeartbeats 32000000 in
theorem laws_walk (s : ByteArray) (v1 : Int) (k1 : ByteArray) (x1 : Value) (l1 : List (Int × List ByteArray)) (v2 : Int) (k2 : ByteArray) (x2 : Value) (l2 : List (Int × List ByteArray)) (a b c : Nat) (w : World)
    (h1 : SigsAt w x1 l1 ∧ MemS l1 ∧ k1.size ≤ 9223372036854775807) (h2 : SigsAt w x2 l2 ∧ MemS l2 ∧ k2.size ≤ 9223372036854775807) (ha : a < 256) (hb : b < 256) (hc : c < 256) (hT : Tabs w) :
    Calls Tryd.prog 6 #[.string s, .agg #[.int .i64 v1, .string k1, x1, .int .i64 v2, .string k2, x2], .agg #[.int .u8 (a : Int), .int .u8 (b : Int), .int .u8 (c : Int)]] w fun e w' => e = .returned (.bool true) ∧ Below w.heap.size w w' := by
  obtain ⟨hv1, hm1, hk1⟩ := h1
  obtain ⟨hv2, hm2, hk2⟩ := h2
  have HV1 := Lib.hid hv1
  have HV2 := Lib.hid hv2
  have HM1 := Lib.hid hm1
  have HM2 := Lib.hid hm2
  have HK1 := Lib.hid hk1
  have HK2 := Lib.hid hk2
  have HT := Lib.hid hT
  obtain ⟨a1, cap1, rfl, _⟩ := hv1
  obtain ⟨a2, cap2, rfl, _⟩ := hv2
  have HA := Lib.hid ha
  have HB := Lib.hid hb
  have HC := Lib.hid hc
  clear hm1 hm2 hk1 hk2 hT ha hb hc
  have b1 := (((Below.refl w.heap.size w).alloc (Nat.le_refl _) (.cells #[.int .i64 v1, .string k1, .slice a1 l1.length cap1, .int .i64 v2, .string k2, .slice a2 l2.length cap2] 45)).alloc (by simp) (.cells #[.int .u8 (a : Int), .int .u8 (b : Int), .int .u8 (c : Int)] 46))
  have X0 := ((box_mk w [.int .i64 v1, .string k1, .slice a1 l1.length cap1, .int .i64 v2, .string k2, .slice a2 l2.length cap2] 45).on ((Below.refl _ _).alloc (Nat.le_refl _) (.cells #[.int .u8 (a : Int), .int .u8 (b : Int), .int .u8 (c : Int)] 46)))
  have X1 := box_mk (w.alloc (.cells #[.int .i64 v1, .string k1, .slice a1 l1.length cap1, .int .i64 v2, .string k2, .slice a2 l2.length cap2] 45)) [.int .u8 (a : Int), .int .u8 (b : Int), .int .u8 (c : Int)] 46
  rw [show (w.alloc (.cells #[.int .i64 v1, .string k1, .slice a1 l1.length cap1, .int .i64 v2, .string k2, .slice a2 l2.length cap2] 45)).heap.size = w.heap.size + 1 by simp] at X1
  go_enter Tryd.func6, Tryd.ntmps6
  go_wp2_with fail
  obtain ⟨g, hg⟩ : ∃ g, w.heap.size = g := ⟨_, rfl⟩
  have HG := Lib.hid hg
  obtain ⟨w0, hw0⟩ : ∃ w0, (w.alloc (.cells #[.int .i64 v1, .string k1, .slice a1 l1.length cap1, .int .i64 v2, .string k2, .slice a2 l2.length cap2] 45)).alloc (.cells #[.int .u8 (a : Int), .int .u8 (b : Int), .int .u8 (c : Int)] 46) = w0 := ⟨_, rfl⟩
  have e0 : (w.alloc (.cells [.int .i64 v1, .string k1, .slice a1 l1.length cap1, .int .i64 v2, .string k2, .slice a2 l2.length cap2].toArray 45)).alloc (.cells #[.int .u8 (a : Int), .int .u8 (b : Int), .int .u8 (c : Int)] 46) = w0 := hw0
  have e1 : (w.alloc (.cells #[.int .i64 v1, .string k1, .slice a1 l1.length cap1, .int .i64 v2, .string k2, .slice a2 l2.length cap2] 45)).alloc (.cells [.int .u8 (a : Int), .int .u8 (b : Int), .int .u8 (c : Int)].toArray 46) = w0 := hw0
  rw [e0] at X0
  rw [e1] at X1
  rw [hw0] at b1 ⊢
  rw [hg] at X0 X1 ⊢
  clear hg hw0 e0 e1
  have B1 := Lib.hid b1
  have HX0 := Lib.hid (fun (wx : World) (hb : Below w0.heap.size w0 wx) => And.intro (box_on X0 hb 0 _ rfl) (And.intro (box_on X0 hb 1 _ rfl) (And.intro (box_on X0 hb 2 _ rfl) (And.intro (box_on X0 hb 3 _ rfl) (And.intro (box_on X0 hb 4 _ rfl) (box_on X0 hb 5 _ rfl))))))
  have HX1 := Lib.hid (fun (wx : World) (hb : Below w0.heap.size w0 wx) => And.intro (box_on X1 hb 0 _ rfl) (And.intro (box_on X1 hb 1 _ rfl) (box_on X1 hb 2 _ rfl)))
  have HV1 := Lib.hid (fun (wx : World) (hb : Below w0.heap.size w0 wx) => HV1.out.later (b1.trans (hb.mono b1.size)))
  have HV2 := Lib.hid (fun (wx : World) (hb : Below w0.heap.size w0 wx) => HV2.out.later (b1.trans (hb.mono b1.size)))
  have HT1 := Lib.hid (fun (wx : World) (hb : Below w0.heap.size w0 wx) => tabs_on HT.out (b1.trans (hb.mono b1.size)))
  clear b1 X0 X1
  refine two_new (a1 := ?a1) [0, 1, 2, 3] 4 5 6 7 _ _ _ _ 3 (cC (.int .i64 v1) k1 (.slice a1 l1.length cap1)) (cC (.int .i64 v2) k2 (.slice a2 l2.length cap2)) (cC (.int .i64 0) ⟨#[]⟩ (.slice none 0 0)) #[.int .i64 0, .string ⟨#[]⟩, .slice none 0 0] 24 24 7 8 17 19 (by kernel_rfl) (by kernel_rfl) (fun _ _ d _ _ h => by cases d <;> exact h) rfl rfl rfl rfl ⟨rfl, rfl, rfl, rfl⟩ rfl rfl rfl rfl (by decide) ?hread rfl rfl ?hal ?hz ?ht1 rfl rfl ?hST ?hc1 ?hc2 ?hK
  case hread =>
    simp only [pick, List.filterMap, List.getElem?_toArray, List.getElem?_cons_zero, List.getElem?_cons_succ]
    iterate 4 (refine heldg_run ?_ rfl ?_ ?_; rotate_left; (focus (intro w' hS; obtain ⟨s0, s1, s2, s3, s4, s5⟩ := HX0.out w' hS; go_simp; exact rfl)); simp only [Act.put, List.setIfInBounds_toArray, List.set_cons_zero, List.set_cons_succ])
    exact rfl
  case hal => intro w'; rfl
  case hz => rfl
  case ht1 => intro p q; exact ⟨rfl, rfl, rfl, rfl⟩
  case hST => intro w'; rfl
  case hc1 => intro j hj; match j, hj with | 0, _ => rfl | 1, _ => rfl | 2, _ => rfl
  case hc2 => intro j hj; match j, hj with | 0, _ => rfl | 1, _ => rfl | 2, _ => rfl
  case hK =>
  intro bp bq w5 hb5 hbp hbq kp kq
  simp only [Act.put, List.setIfInBounds_toArray, List.set_cons_zero, List.set_cons_succ]
  have HP := Lib.hid (blk3_on kp)
  have HQ := Lib.hid (blk3_on kq)
  have B5 := Lib.hid hb5
  have hbw : ∀ wx, Below w5.heap.size w5 wx → Below w0.heap.size w0 wx := fun wx hb => hb5.trans (hb.mono hb5.size)
  have HX1 := Lib.hid (fun wx hb => HX1.out wx (hbw wx hb))
  have HV1 := Lib.hid (fun wx hb => HV1.out wx (hbw wx hb))
  have HV2 := Lib.hid (fun wx hb => HV2.out wx (hbw wx hb))
  have HT1 := Lib.hid (fun wx hb => HT1.out wx (hbw wx hb))
  have HBW := Lib.hid (fun wx hb => B1.out.trans ((hbw wx hb).mono B1.out.size))
  have BR := Lib.hid (Below.refl w5.heap.size w5)
  clear kp kq hb5 hbp hbq HX0 hbw B1
  go_wp2_with fail
  refine (awake5_any _ (HT1.out w5 BR.out)).mono ?_
  rintro e w2 ⟨rfl, hb2⟩
  have B2 := Lib.hid hb2
  obtain ⟨c0, c1, c2⟩ := HP.out w2 hb2
  clear hb2
  by_cases hs : s.size ≤ 30
  rotate_left
  · have t1 : (30 : Int) < (s.size : Int) := by omega
    clear hs
    go_wp2_with fail
    refine (awake5_any _ (HT1.out w2 B2.out)).mono ?_
    rintro e w3 ⟨rfl, hb3⟩
    have B3 := Lib.hid (B2.out.trans (hb3.mono B2.out.size))
    clear hb3
    go_wp2_with fail
    go_ret
    exact ⟨rfl, HG.out ▸ HBW.out _ B3.out⟩
  have t1 : ¬ (30 : Int) < (s.size : Int) := by omega
  have HS := Lib.hid (show s.size ≤ 1000 by omega)
  clear hs
  go_wp2_with fail
  rcases hf1 : fewCert k1 l1 with _ | _
  · have HF := Lib.hid hf1
    clear hf1
    refine (fewcert5_is v1 k1 _ l1 false HF.out w2 (HV1.out w2 B2.out) HM1.out HK1.out).mono ?_
    rintro e w3 ⟨rfl, hb3⟩
    have B3 := Lib.hid (B2.out.trans (hb3.mono B2.out.size))
    clear c0 c1 c2 hb3
    go_wp2_with fail
    refine (awake5_any _ (HT1.out w3 B3.out)).mono ?_
    rintro e w3 ⟨rfl, hb3⟩
    have B3 := Lib.hid (B3.out.trans (hb3.mono B3.out.size))
    clear hb3
    go_wp2_with fail
    go_ret
    exact ⟨rfl, HG.out ▸ HBW.out _ B3.out⟩
  have HF1 := Lib.hid hf1
  clear hf1
  refine (fewcert5_is v1 k1 _ l1 true HF1.out w2 (HV1.out w2 B2.out) HM1.out HK1.out).mono ?_
  rintro e w3 ⟨rfl, hb3⟩
  have B3 := Lib.hid (B2.out.trans (hb3.mono B2.out.size))
  clear c0 c1 c2 hb3
  obtain ⟨c0, c1, c2⟩ := HQ.out w3 B3.out
  go_wp2_with fail
  rcases hf2 : fewCert k2 l2 with _ | _
  · have HF := Lib.hid hf2
    clear hf2
    refine (fewcert5_is v2 k2 _ l2 false HF.out w3 (HV2.out w3 B3.out) HM2.out HK2.out).mono ?_
    rintro e w3 ⟨rfl, hb3⟩
    have B3 := Lib.hid (B3.out.trans (hb3.mono B3.out.size))
    clear c0 c1 c2 hb3
    go_wp2_with fail
    refine (awake5_any _ (HT1.out w3 B3.out)).mono ?_
    rintro e w3 ⟨rfl, hb3⟩
    have B3 := Lib.hid (B3.out.trans (hb3.mono B3.out.size))
    clear hb3
    go_wp2_with fail
    go_ret
    exact ⟨rfl, HG.out ▸ HBW.out _ B3.out⟩
  have HF2 := Lib.hid hf2
  clear hf2
  refine (fewcert5_is v2 k2 _ l2 true HF2.out w3 (HV2.out w3 B3.out) HM2.out HK2.out).mono ?_
  rintro e w4 ⟨rfl, hb4⟩
  have B4 := Lib.hid (B3.out.trans (hb4.mono B3.out.size))
  clear c0 c1 c2 hb4 B3 B2
  obtain ⟨c0, c1, c2⟩ := HX1.out w4 B4.out
  have a0' : (0 : Int) ≤ (a : Int) := by omega
  have a1' : (a : Int) ≤ 255 := by have := HA.out; omega
  go_wp2_with fail
  obtain ⟨n, hn⟩ : ∃ n : Nat, (1 + (a : Int) % 7) = (n : Int) := ⟨1 + a % 7, by omega⟩
  rw [hn]
  have HN := Lib.hid (show 1 ≤ n ∧ n ≤ 7 by omega)
  have n1 : (1 : Int) ≤ (n : Int) := by omega
  have n7 : (n : Int) ≤ 7 := by omega
  have nz : ¬ (n : Int) = 0 := by omega
  clear hn a0' a1'
  obtain ⟨i, hi⟩ : ∃ i : Nat, i = b % n := ⟨_, rfl⟩
  obtain ⟨k, hk⟩ : ∃ k : Nat, k = c % n := ⟨_, rfl⟩
  have m1 : (b : Int).tmod (n : Int) = (i : Int) := by rw [hi]; rfl
  have m2 : (c : Int).tmod (n : Int) = (k : Int) := by rw [hk]; rfl
  have b0 : (0 : Int) ≤ (b : Int) := by omega
  have b1 : (b : Int) ≤ 255 := by have := HB.out; omega
  have d0 : (0 : Int) ≤ (c : Int) := by omega
  have d1 : (c : Int) ≤ 255 := by have := HC.out; omega
  clear hi hk
  go_quiet (fail)
  have B4 := Lib.hid (below_drewI B4.out nq)
  clear c0 c1 c2 m1 m2 b0 b1 d0 d1 nz
  generalize w4.drewN nq = w4 at *
  obtain ⟨c0, c1, c2⟩ := HP.out w4 B4.out
  obtain ⟨q0, q1, q2⟩ := HQ.out w4 B4.out
  clear n1 n7
  by_cases v1p : v1 < 1
  · go_wp2_with fail
    go_ret
    exact ⟨rfl, HG.out ▸ HBW.out _ B4.out⟩
  by_cases v2p : v2 < 1
  · go_wp2_with fail
    go_ret
    exact ⟨rfl, HG.out ▸ HBW.out _ B4.out⟩
  obtain ⟨hsm1, hkk1, hz1, hmm1⟩ := fewcert_facts HF1.out v1
  obtain ⟨hsm2, hkk2, hz2, hmm2⟩ := fewcert_facts HF2.out v2
  have HSM1 := Lib.hid hsm1
  have HKK1 := Lib.hid hkk1
  have HZ1 := Lib.hid hz1
  have HSM2 := Lib.hid hsm2
  have HKK2 := Lib.hid hkk2
  have HZ2 := Lib.hid hz2
  have HN7 := Lib.hid (show (n : Int) ≤ 9223372036854775807 by have := HN.out; omega)
  clear hsm1 hkk1 hz1 hmm1 hsm2 hkk2 hz2 hmm2
  go_wp2_with fail
  rcases hh1 : certHolds s (i : Int) (n : Int) v1 k1 l1 with _ | _
  · have HH := Lib.hid hh1
    clear hh1
    refine (chold_is false s _ _ v1 k1 _ l1 HH.out w4 (HV1.out w4 B4.out) HN7.out HS.out HKK1.out HSM1.out HZ1.out (HT1.out w4 B4.out)).mono ?_
    rintro e w6 ⟨rfl, hb6⟩
    have B6 := Lib.hid (B4.out.trans (hb6.mono B4.out.size))
    clear hb6 c0 c1 c2 q0 q1 q2
    go_wp2_with fail
    go_ret
    exact ⟨rfl, HG.out ▸ HBW.out _ B6.out⟩
  have HH1 := Lib.hid hh1
  clear hh1
  refine (chold_is true s _ _ v1 k1 _ l1 HH1.out w4 (HV1.out w4 B4.out) HN7.out HS.out HKK1.out HSM1.out HZ1.out (HT1.out w4 B4.out)).mono ?_
  rintro e w6 ⟨rfl, hb6⟩
  have B6 := Lib.hid (B4.out.trans (hb6.mono B4.out.size))
  clear hb6 c0 c1 c2 q0 q1 q2
  obtain ⟨q0, q1, q2⟩ := HQ.out w6 B6.out
  go_wp2_with fail
  rcases hh2 : certHolds s (k : Int) (n : Int) v2 k2 l2 with _ | _
  · have HH := Lib.hid hh2
    clear hh2
    refine (chold_is false s _ _ v2 k2 _ l2 HH.out w6 (HV2.out w6 B6.out) HN7.out HS.out HKK2.out HSM2.out HZ2.out (HT1.out w6 B6.out)).mono ?_
    rintro e w7 ⟨rfl, hb7⟩
    have B7 := Lib.hid (B6.out.trans (hb7.mono B6.out.size))
    clear hb7 q0 q1 q2
    go_wp2_with fail
    go_ret
    exact ⟨rfl, HG.out ▸ HBW.out _ B7.out⟩
  have HH2 := Lib.hid hh2
  clear hh2
  refine (chold_is true s _ _ v2 k2 _ l2 HH2.out w6 (HV2.out w6 B6.out) HN7.out HS.out HKK2.out HSM2.out HZ2.out (HT1.out w6 B6.out)).mono ?_
  rintro e w7 ⟨rfl, hb7⟩
  have B7 := Lib.hid (B6.out.trans (hb7.mono B6.out.size))
  clear hb7 q0 q1 q2 B6
  have HQ1 := Lib.hid (certHolds_more (v := v1) (by omega) HH1.out)
  have HQ2 := Lib.hid (certHolds_more (v := v2) (by omega) HH2.out)
  clear v1p v2p
  obtain ⟨c0, c1, c2⟩ := HP.out w7 B7.out
  obtain ⟨q0, q1, q2⟩ := HQ.out w7 B7.out
  obtain ⟨x, hx⟩ : ∃ x, goodL s (i : Int) (n : Int) v1 k1 l1 = x := ⟨_, rfl⟩
  obtain ⟨y, hy⟩ : ∃ y, goodL s (k : Int) (n : Int) v2 k2 l2 = y := ⟨_, rfl⟩
  have HSH := Lib.hid (show faultsI (n : Int) < (bothI x y : Int) by rw [← hx, ← hy]; exact quorums_share HN.out.1 HQ1.out HQ2.out)
  have HXL := Lib.hid (show x.length ≤ 1000 by
    have h1 := HSM1.out.1
    rw [← hx]
    unfold goodL
    split
    · have := good_len (fun p => holdsB s (i : Int) (n : Int) (textB v1 k1) p.1 p.2) l1 l1.length; omega
    · simp)
  have HGX := Lib.hid (fun wx (hb : Below w5.heap.size w5 wx) => hx ▸ good_any s (i : Int) (n : Int) v1 k1 (.slice a1 l1.length cap1) l1 wx (HV1.out wx hb) HS.out HKK1.out HSM1.out HZ1.out (HT1.out wx hb))
  have HGY := Lib.hid (fun wx (hb : Below w5.heap.size w5 wx) => hy ▸ good_any s (k : Int) (n : Int) v2 k2 (.slice a2 l2.length cap2) l2 wx (HV2.out wx hb) HS.out HKK2.out HSM2.out HZ2.out (HT1.out wx hb))
  have hst := And.intro (show w7.drew.cell? ⟨bp, 0, none⟩ = _ from c0) (And.intro (show w7.drew.cell? ⟨bp, 1, none⟩ = _ from c1) (And.intro (show w7.drew.cell? ⟨bp, 2, none⟩ = _ from c2) (And.intro (show w7.drew.cell? ⟨bq, 0, none⟩ = _ from q0) (And.intro (show w7.drew.cell? ⟨bq, 1, none⟩ = _ from q1) (And.intro (show w7.drew.cell? ⟨bq, 2, none⟩ = _ from q2) (And.intro B7.out.drew (show w5.heap.size ≤ w7.drew.heap.size from B7.out.size)))))))
  clear c0 c1 c2 q0 q1 q2 hx hy
  go_wp2_with fail
  go_region_held3 (fun w' => w'.cell? ⟨bp, 0, none⟩ = some (.int .i64 v1) ∧ w'.cell? ⟨bp, 1, none⟩ = some (.string k1) ∧ w'.cell? ⟨bp, 2, none⟩ = some (.slice a1 l1.length cap1) ∧ w'.cell? ⟨bq, 0, none⟩ = some (.int .i64 v2) ∧ w'.cell? ⟨bq, 1, none⟩ = some (.string k2) ∧ w'.cell? ⟨bq, 2, none⟩ = some (.slice a2 l2.length cap2) ∧ Below w5.heap.size w5 w' ∧ w5.heap.size ≤ w'.heap.size)
    (first | exact hst | exact hk)
    (first
      | (go_at_call 10; (fail_if_success have hx := HI1); (with_reducible refine (HGX.out _ (six_below (by assumption))).mono ?_); rintro e w8 ⟨u1, rfl, hi1, hb8⟩; have hk := keep6c (by assumption) hb8; have HI1 := Lib.hid hi1; (try have HI2 := Lib.hid (HI2.out.later hb8)))
      | (go_at_call 10; (with_reducible refine (HGY.out _ (six_below (by assumption))).mono ?_); rintro e w8 ⟨u1, rfl, hi1, hb8⟩; have hk := keep6c (by assumption) hb8; have HI2 := Lib.hid hi1; (try have HI1 := Lib.hid (HI1.out.later hb8))))
  obtain ⟨ga, gcap, rfl, hga⟩ := ints_nth HI1.out
  have HGA := Lib.hid hga
  have HY := HI2
  have B8 := Lib.hid hk.2.2.2.2.2.2.1
  clear hst hk hga HI1 HI2 HGX HGY
  rename World => w9
  go_wp2_with fail
  go_loop [12, 15] (fun u z => ∃ j : Nat, j ≤ x.length ∧ z = .int .i64 (j : Int) ∧ u = .int .i64 (bothI (x.take j) y : Int)) (fun _ z => x.length - (intOf z).toNat)
  case atStart => exact ⟨0, Nat.zero_le _, rfl, rfl⟩
  case round =>
    obtain ⟨j, hj, rfl, rfl⟩ := hrel
    have j0 : (0 : Int) ≤ (j : Int) := by omega
    have jb : (j : Int) ≤ 1000 := by have := HXL.out; omega
    by_cases hlt : j < x.length
    · have hlt' : (j : Int) < (x.length : Int) := by omega
      obtain ⟨gb, off, rfl, hbw, hci⟩ := HGA.out j hlt
      have HSN := Lib.hid (both_snoc x y j hlt)
      obtain ⟨u, hu⟩ : ∃ u, x.getD j 0 = u := ⟨_, rfl⟩
      rw [hu] at hci HSN
      have HBL := Lib.hid (both_le x y j)
      obtain ⟨c, hc⟩ : ∃ c, bothI (x.take j) y = c := ⟨_, rfl⟩
      rw [hc] at HSN HBL ⊢
      have c0 : (0 : Int) ≤ (c : Int) := by omega
      have c1 : (c : Int) ≤ 1000 := by have := HBL.out; have := HXL.out; omega
      have HLT := Lib.hid hlt
      clear hu hc hlt hj hbw
      by_cases huy : u ∈ y
      · have D1 := Lib.hid (show decide (u ∈ y) = true by simpa using huy)
        have HC := Lib.hid (show bothI (x.take (j + 1)) y = c + 1 by rw [HSN.out, if_pos huy])
        clear huy
        go_wp2_with fail
        refine (has_is y _ u true D1.out w9 HY.out).mono ?_
        rintro e w' ⟨rfl, rfl⟩
        go_wp2_with fail
        go_round
        case rel => exact ⟨j + 1, by have := HLT.out; omega, by go_num, by rw [HC.out]; go_num⟩
        case measure => have := HLT.out; simp [intOf]; omega
      · have D1 := Lib.hid (show decide (u ∈ y) = false by simpa using huy)
        have HC := Lib.hid (show bothI (x.take (j + 1)) y = c by rw [HSN.out, if_neg huy]; rfl)
        clear huy
        go_wp2_with fail
        refine (has_is y _ u false D1.out w9 HY.out).mono ?_
        rintro e w' ⟨rfl, rfl⟩
        go_wp2_with fail
        go_round
        case rel => exact ⟨j + 1, by have := HLT.out; omega, by go_num, by rw [HC.out]⟩
        case measure => have := HLT.out; simp [intOf]; omega
    · obtain rfl : j = x.length := by omega
      have hlt' : ¬ (x.length : Int) < (x.length : Int) := by omega
      rw [List.take_length]
      obtain ⟨fl, hfl⟩ : ∃ fl, faultsI (n : Int) = fl := ⟨_, rfl⟩
      have HFL := Lib.hid hfl
      have hgt : fl < (bothI x y : Int) := by rw [← hfl]; exact HSH.out
      obtain ⟨c, hc⟩ : ∃ c, bothI x y = c := ⟨_, rfl⟩
      rw [hc] at hgt ⊢
      clear hj hlt hfl hc
      go_wp2_with fail
      refine (rfaults_is (n : Int) fl HFL.out HN7.out w9).mono ?_
      rintro e w' ⟨rfl, rfl⟩
      go_wp2_with fail
      go_ret
      exact ⟨by first | rfl | simp [hgt], HG.out ▸ HBW.out _ B8.out⟩
end Go.Proofs.YtigoaokpodggcaaDoor
end
