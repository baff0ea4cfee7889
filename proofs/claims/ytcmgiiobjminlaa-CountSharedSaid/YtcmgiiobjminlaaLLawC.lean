/-
  The walk of the law CountShared, from what the code's Shared answers.
-/
import Derived.Test.YtcmgiiobjminlaaLLawL
open Go Go.RowKit
namespace WW
open BB
theorem once_inv (n : Int) : ∀ (l out : List Int), out.Nodup → (∀ x ∈ out, 0 ≤ x ∧ x < n) → (l.foldl (onceStep n) out).Nodup ∧ ∀ x ∈ l.foldl (onceStep n) out, 0 ≤ x ∧ x < n := by
  intro l
  induction l with
  | nil => intro out h1 h2; exact ⟨h1, h2⟩
  | cons a l ih =>
    intro out h1 h2
    show (l.foldl (onceStep n) (onceStep n out a)).Nodup ∧ ∀ x ∈ l.foldl (onceStep n) (onceStep n out a), 0 ≤ x ∧ x < n
    apply ih
    · unfold onceStep
      split
      · rename_i h
        rw [List.nodup_append]
        exact ⟨h1, by simp, fun b hb c hc => by
          obtain rfl : c = a := by simpa using hc
          rintro rfl
          exact h.2.2 hb⟩
      · exact h1
    · unfold onceStep
      split
      · rename_i h
        intro x hx
        rcases List.mem_append.1 hx with hx | hx
        · exact h2 x hx
        · obtain rfl : x = a := by simpa using hx
          exact ⟨h.1, h.2.1⟩
      · exact h2
theorem once_nodup (l : List Int) (n : Int) : (onceL l n).Nodup := (once_inv n l [] List.nodup_nil (by simp)).1
theorem once_in (l : List Int) (n : Int) : ∀ x ∈ onceL l n, 0 ≤ x ∧ x < n := (once_inv n l [] List.nodup_nil (by simp)).2
/-- how many of x are in y -/
def bothI (x y : List Int) : Nat := x.countP (fun u => decide (u ∈ y))
theorem both_snoc (x y : List Int) (i : Nat) (h : i < x.length) : bothI (x.take (i + 1)) y = bothI (x.take i) y + if x.getD i 0 ∈ y then 1 else 0 := by
  unfold bothI
  rw [List.take_succ_eq_append_getElem h, List.countP_append]
  simp [List.getD, List.getElem?_eq_getElem h, List.countP_cons]
theorem both_le (x y : List Int) (i : Nat) : bothI (x.take i) y ≤ x.length := by
  have := List.countP_le_length (p := fun u => decide (u ∈ y)) (l := x.take i)
  rw [List.length_take] at this
  unfold bothI; omega
theorem pair_nodup {s : List Int} (h : s.Pairwise (· < ·)) : s.Nodup := h.imp fun h => by omega
theorem both_eq {x y s : List Int} (hx : x.Nodup) (hs : s.Nodup) (hm : ∀ u, u ∈ s ↔ u ∈ x ∧ u ∈ y) : bothI x y = s.length := by
  unfold bothI
  rw [List.countP_eq_length_filter]
  exact ((List.perm_ext_iff_of_nodup (List.Nodup.sublist List.filter_sublist hx) hs).2 fun u => by rw [List.mem_filter, hm]; simp).length_eq
theorem shared_many {x y s : List Int} {n : Int} (hx : x.Nodup) (hy : y.Nodup) (hm : ∀ u, u ∈ s ↔ u ∈ x ∧ u ∈ y) (bx : ∀ u ∈ x, 0 ≤ u ∧ u < n) (bY : ∀ u ∈ y, 0 ≤ u ∧ u < n) : x.length + y.length ≤ n.toNat + s.length := by
  have h1 := List.length_eq_countP_add_countP (fun u => decide (u ∈ x)) (l := y)
  rw [List.countP_eq_length_filter, List.countP_eq_length_filter] at h1
  have h2 : (y.filter fun u => decide (u ∈ x)).length ≤ s.length := List.Nodup.length_le_of_subset (List.Nodup.sublist List.filter_sublist hy) fun u hu => by
    rw [List.mem_filter] at hu
    exact (hm u).2 ⟨by simpa using hu.2, hu.1⟩
  have h3 : (x ++ y.filter fun u => decide ¬(decide (u ∈ x)) = true).Nodup := by
    rw [List.nodup_append]
    refine ⟨hx, List.Nodup.sublist List.filter_sublist hy, fun a ha b hb => ?_⟩
    rw [List.mem_filter] at hb
    rintro rfl
    simp [ha] at hb
  have h4 := List.Nodup.length_le_of_subset (l₂ := (List.range n.toNat).map fun (k : Nat) => (k : Int)) h3 fun u hu => by
    have hb : 0 ≤ u ∧ u < n := by
      rcases List.mem_append.1 hu with h | h
      · exact bx u h
      · exact bY u (List.mem_filter.1 h).1
    exact List.mem_map.2 ⟨u.toNat, List.mem_range.2 (by omega), by omega⟩
  rw [List.length_append, List.length_map, List.length_range] at h4
  omega
theorem rise_at {s : List Int} (h : s.Pairwise (· < ·)) (i : Nat) (hi : i + 1 < s.length) : s.getD i 0 < s.getD (i + 1) 0 := by
  rw [List.getD_eq_getElem?_getD, List.getD_eq_getElem?_getD, List.getElem?_eq_getElem hi, List.getElem?_eq_getElem (by omega)]
  exact List.pairwise_iff_getElem.1 h i (i + 1) (by omega) hi (by omega)
end WW
namespace Go.Proofs.Ytcmgiiobjminlaa
open WW BB
def SharedOK : Prop := ∀ (a b : List Int) (va vb : Value) (n : Int) (w : World), IntsAt w va a → IntsAt w vb b → a.length ≤ 60 → b.length ≤ 60 → n ≤ 20 → Calls Try.prog 16 #[va, vb, .int .i64 n] w fun e w' => ∃ a0 cap s, e = .returned (.slice a0 s.length cap) ∧ IntsAt w' (.slice a0 s.length cap) s ∧ s.Pairwise (· < ·) ∧ (∀ u, u ∈ s ↔ u ∈ onceL a n ∧ u ∈ onceL b n) ∧ Below w.heap.size w w'
set_option maxRecDepth 100000 in
set_option maxHeartbeats 8000000 in
theorem countShared_of (hSh : SharedOK) (va : Value) (a : List Int) (vb : Value) (b : List Int) (n : Int) (w : World) (hA : IntsAt w va a) (hB : IntsAt w vb b) : Calls Try.prog 5 #[va, vb, .int .i64 n] w fun e w' => e = .returned (.bool true) ∧ Below w.heap.size w w' := by
  have HA := Lib.hid hA
  have HB := Lib.hid hB
  obtain ⟨a0, cap0, rfl, _, hx⟩ := hA
  obtain ⟨b0, cap1, rfl, _, hx1⟩ := hB
  clear hx hx1
  by_cases ha : (60 : Int) < (a.length : Int)
  · go_enter Try.func5, Try.ntmps5
    go_wp2_with (go_at_call 10; refine (awake4_any _).mono ?_; rintro e w' ⟨rfl, rfl⟩)
    go_ret
    exact ⟨rfl, Below.refl _ _⟩
  by_cases hb : (60 : Int) < (b.length : Int)
  · go_enter Try.func5, Try.ntmps5
    go_wp2_with (go_at_call 10; refine (awake4_any _).mono ?_; rintro e w' ⟨rfl, rfl⟩)
    go_ret
    exact ⟨rfl, Below.refl _ _⟩
  by_cases hn : (20 : Int) < n
  · go_enter Try.func5, Try.ntmps5
    go_wp2_with (go_at_call 10; refine (awake4_any _).mono ?_; rintro e w' ⟨rfl, rfl⟩)
    go_ret
    exact ⟨rfl, Below.refl _ _⟩
  have LA := Lib.hid (show a.length ≤ 60 by omega)
  have LB := Lib.hid (show b.length ≤ 60 by omega)
  have LN := Lib.hid (show n ≤ 20 by omega)
  go_enter Try.func5, Try.ntmps5
  go_wp2_with (go_at_call 10; refine (awake4_any _).mono ?_; rintro e w' ⟨rfl, rfl⟩)
  refine (hSh a b _ _ n w HA.out HB.out LA.out LB.out LN.out).mono ?_
  rintro e w1 ⟨s0, scap, s, rfl, hs, hr, hm, hb1⟩
  have HS := Lib.hid hs
  have HR := Lib.hid hr
  have B1 := Lib.hid hb1
  have HXN := Lib.hid (once_nodup a n)
  have HYN := Lib.hid (once_nodup b n)
  have HXI := Lib.hid (once_in a n)
  have HYI := Lib.hid (once_in b n)
  have HXL := Lib.hid (show (onceL a n).length ≤ 60 by have := once_len a n a.length (Nat.le_refl _); rw [List.take_length] at this; have := LA.out; omega)
  have HYL := Lib.hid (show (onceL b n).length ≤ 60 by have := once_len b n b.length (Nat.le_refl _); rw [List.take_length] at this; have := LB.out; omega)
  obtain ⟨x, hx⟩ : ∃ x, onceL a n = x := ⟨_, rfl⟩
  obtain ⟨y, hy⟩ : ∃ y, onceL b n = y := ⟨_, rfl⟩
  rw [hx] at hm HXN HXI HXL
  rw [hy] at hm HYN HYI HYL
  have HX := Lib.hid hx
  have HY := Lib.hid hy
  have HM := Lib.hid hm
  clear hs hr hb1 hm hx hy ha hb hn
  go_wp2_with fail
  refine (once_is a x _ n HX.out w1 (HA.out.later B1.out) (by have := LA.out; omega)).mono ?_
  rintro e w2 ⟨x0, xcap, rfl, hxi, hb2⟩
  have B2 := Lib.hid (B1.out.trans (hb2.mono B1.out.size))
  have HS2 := Lib.hid (HS.out.later hb2)
  have HXA := Lib.hid hxi
  clear hb2 hxi B1 HS
  go_wp2_with fail
  refine (once_is b y _ n HY.out w2 (HB.out.later B2.out) (by have := LB.out; omega)).mono ?_
  rintro e w3 ⟨y0, ycap, rfl, hyi, hb3⟩
  have B3 := Lib.hid (B2.out.trans (hb3.mono B2.out.size))
  have HS3 := Lib.hid (HS2.out.later hb3)
  have HX3 := Lib.hid (HXA.out.later hb3)
  have HY3 := Lib.hid hyi
  clear hb3 hyi B2 HS2 HXA HX HY
  go_wp2_with fail
  go_loop [10, 11] (fun u v => ∃ i : Nat, i ≤ x.length ∧ v = .int .i64 (i : Int) ∧ u = .int .i64 (bothI (x.take i) y : Int)) (fun _ v => x.length - (intOf v).toNat)
  case atStart => exact ⟨0, Nat.zero_le _, rfl, rfl⟩
  case round =>
    obtain ⟨i, hi, rfl, rfl⟩ := hrel
    have i0 : (0 : Int) ≤ (i : Int) := by omega
    have ib : (i : Int) ≤ 60 := by have := HXL.out; omega
    by_cases hlt : i < x.length
    · have hlt' : (i : Int) < (x.length : Int) := by omega
      obtain ⟨a1, cap2, he, _, hv | ⟨gb, off, rfl, hbw, hcell⟩⟩ := HX3.out
      · rw [hv] at hlt; simp at hlt
      injection he with e1 _ e3
      subst e1 e3
      have hci := hcell i hlt
      have HSN := Lib.hid (both_snoc x y i hlt)
      have HIX := Lib.hid (show x.getD i 0 ∈ x by rw [List.getD_eq_getElem?_getD, List.getElem?_eq_getElem hlt]; exact List.getElem_mem hlt)
      obtain ⟨u, hu⟩ : ∃ u, x.getD i 0 = u := ⟨_, rfl⟩
      rw [hu] at hci HSN HIX
      have HBL := Lib.hid (both_le x y i)
      obtain ⟨c, hc⟩ : ∃ c, bothI (x.take i) y = c := ⟨_, rfl⟩
      rw [hc] at HSN HBL ⊢
      have c0 : (0 : Int) ≤ (c : Int) := by omega
      have c1 : (c : Int) ≤ 60 := by have := HBL.out; have := HXL.out; omega
      have HLT := Lib.hid hlt
      clear hu hc hlt hi hcell hbw
      by_cases huy : u ∈ y
      · have d1 : decide (u ∈ y) = true := by simpa using huy
        have d2 : decide (u ∈ s) = true := by simpa using (HM.out u).2 ⟨HIX.out, huy⟩
        have HC := Lib.hid (show bothI (x.take (i + 1)) y = c + 1 by rw [HSN.out, if_pos huy])
        have D1 := Lib.hid d1
        have D2 := Lib.hid d2
        clear d1 d2 huy
        go_wp2_with fail
        refine (has_is y _ u true D1.out w3 HY3.out).mono ?_
        rintro e w' ⟨rfl, rfl⟩
        go_wp2_with fail
        refine (has_is s _ u true D2.out w3 HS3.out).mono ?_
        rintro e w' ⟨rfl, rfl⟩
        go_wp2_with fail
        go_round
        case rel => exact ⟨i + 1, by have := HLT.out; omega, by go_num, by rw [HC.out]; go_num⟩
        case measure => have := HLT.out; simp [intOf]; omega
      · have d1 : decide (u ∈ y) = false := by simpa using huy
        have HC := Lib.hid (show bothI (x.take (i + 1)) y = c by rw [HSN.out, if_neg huy]; rfl)
        have D1 := Lib.hid d1
        clear d1 huy
        go_wp2_with fail
        refine (has_is y _ u false D1.out w3 HY3.out).mono ?_
        rintro e w' ⟨rfl, rfl⟩
        go_wp2_with fail
        go_round
        case rel => exact ⟨i + 1, by have := HLT.out; omega, by go_num, by rw [HC.out]⟩
        case measure => have := HLT.out; simp [intOf]; omega
    · obtain rfl : i = x.length := by omega
      have hlt' : ¬ (x.length : Int) < (x.length : Int) := by omega
      rw [List.take_length, both_eq HXN.out (pair_nodup HR.out) HM.out]
      have HSL := Lib.hid (show s.length ≤ 60 by have := both_le x y x.length; rw [List.take_length, both_eq HXN.out (pair_nodup HR.out) HM.out] at this; have := HXL.out; omega)
      clear hi hlt
      go_wp2_with fail
      go_loopw [12] (fun v wr => ∃ i : Nat, (i = 0 ∨ i + 1 ≤ s.length) ∧ v = .int .i64 ((i : Int) + 1) ∧ Below w3.heap.size w3 wr) (fun v _ => s.length - (intOf v).toNat)
      case atStart => exact ⟨0, Or.inl rfl, rfl, Below.refl _ _⟩
      case round =>
        obtain ⟨j, hj, rfl, hbj⟩ := hrel
        have BJ := Lib.hid hbj
        clear hbj
        have j0 : (0 : Int) ≤ (j : Int) := by omega
        have j1 : (0 : Int) ≤ (j : Int) + 1 := by omega
        have jb : (j : Int) ≤ 60 := by have := HSL.out; omega
        by_cases hjl : j + 1 < s.length
        · have hjl' : (j : Int) + 1 < (s.length : Int) := by omega
          have hjl2 : (j : Int) < (s.length : Int) := by omega
          obtain ⟨a1, cap2, he, _, hv | ⟨gb, off, rfl, hbw, hcell⟩⟩ := HS3.out
          · rw [hv] at hjl; simp at hjl
          injection he with e1 _ e3
          subst e1 e3
          have hcj := (BJ.out.cell (p := ⟨gb, off + j, none⟩) hbw).trans (hcell j (by omega))
          have hck := (BJ.out.cell (p := ⟨gb, off + (j + 1), none⟩) hbw).trans (hcell (j + 1) hjl)
          have hrs := rise_at HR.out j hjl
          obtain ⟨p, hp⟩ : ∃ p, s.getD j 0 = p := ⟨_, rfl⟩
          obtain ⟨q, hq⟩ : ∃ q, s.getD (j + 1) 0 = q := ⟨_, rfl⟩
          rw [hp] at hcj hrs
          rw [hq] at hck hrs
          have hpq : ¬ q ≤ p := by omega
          have mw : IntKind.i64.wrap (j : Int) = (j : Int) := by rw [IntKind.wrap_i64]; omega
          have HJL := Lib.hid hjl
          clear hp hq hrs hjl hj hcell hbw
          go_wp2_with fail
          go_quiet (fail)
          go_wp2_with fail
          go_roundw
          case rel => exact ⟨j + 1, by have := HJL.out; omega, by go_num, below_drewI BJ.out _⟩
          case measure => have := HJL.out; simp [intOf]; omega
        · have hjl' : ¬ (j : Int) + 1 < (s.length : Int) := by omega
          have HMY := Lib.hid (shared_many HXN.out HYN.out HM.out HXI.out HYI.out)
          have BW := Lib.hid (B3.out.trans (BJ.out.mono B3.out.size))
          clear hjl hj
          by_cases hn1 : n < 1
          · go_wp2_with fail
            go_ret
            exact ⟨rfl, BW.out⟩
          obtain ⟨f, hf⟩ : ∃ f, faultsI n = f := ⟨_, rfl⟩
          have HF := Lib.hid hf
          have HQ := Lib.hid (show quorumI n = n - f by unfold quorumI; rw [if_neg hn1, hf])
          have f3 : 3 * f + 1 ≤ n := by rw [← hf]; unfold faultsI; rw [if_neg hn1]; omega
          have nh := Lib.hid (show n ≤ 9223372036854775807 by have := LN.out; omega)
          clear hf
          by_cases q1 : (x.length : Int) < n - f
          · clear f3
            go_wp2_with (first
              | (go_at_call 8; refine (cquorum_is n _ HQ.out nh.out _).mono ?_; rintro e w' ⟨rfl, rfl⟩)
              | (go_at_call 7; refine (cfaults_is n _ HF.out nh.out _).mono ?_; rintro e w' ⟨rfl, rfl⟩))
            go_ret
            exact ⟨rfl, BW.out⟩
          by_cases q2 : (y.length : Int) < n - f
          · clear f3
            go_wp2_with (first
              | (go_at_call 8; refine (cquorum_is n _ HQ.out nh.out _).mono ?_; rintro e w' ⟨rfl, rfl⟩)
              | (go_at_call 7; refine (cfaults_is n _ HF.out nh.out _).mono ?_; rintro e w' ⟨rfl, rfl⟩))
            go_ret
            exact ⟨rfl, BW.out⟩
          have q3 : f < (s.length : Int) := by have := HMY.out; omega
          clear f3
          go_wp2_with (first
            | (go_at_call 8; refine (cquorum_is n _ HQ.out nh.out _).mono ?_; rintro e w' ⟨rfl, rfl⟩)
            | (go_at_call 7; refine (cfaults_is n _ HF.out nh.out _).mono ?_; rintro e w' ⟨rfl, rfl⟩))
          go_ret
          exact ⟨rfl, BW.out⟩
end Go.Proofs.Ytcmgiiobjminlaa
