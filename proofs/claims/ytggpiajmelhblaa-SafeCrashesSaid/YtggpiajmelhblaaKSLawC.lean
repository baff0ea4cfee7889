/-
  The walk of the law SafeCrashes.
-/
import Derived.Test.YtggpiajmelhblaaKSLawR
import Derived.Test.YtggpiajmelhblaaKPlanS
import Derived.Test.YtggpiajmelhblaaKJRow
import Derived.Test.YtggpiajmelhblaaKPlanT
section
open Go Go.RowKit
namespace SS
open WW BB FF
theorem keeps_cell {A : Nat → Prop} {w w' : World} (h : Keeps A w w') {b : Nat} (hA : A b) (hl : b < w.heap.size) : w'.heap[b]? = w.heap[b]? := h.block b hA hl
end SS
namespace Go.Proofs.Ytggpiajmelhblaa
open SS RR FF CC WW BB
/-- both logs, the code's at g and the reference's at r, are s -/
def PlSt (C : Code9) (w : World) (r g : Nat) (s : Lg) (wr : World) : Prop :=
  ∃ O, C.At O wr g s ∧ (∀ b, O b → w.heap.size ≤ b ∧ b ≠ r) ∧ Blk wr r 4 (lgRow s) ∧ w.heap.size ≤ r ∧ Below w.heap.size w wr ∧ OkL s
section
variable {C : Code9} {w wr w1 : World} {r g : Nat} {s : Lg}
theorem PlSt.low (h : PlSt C w r g s wr) (hb : Below wr.heap.size wr w1) : PlSt C w r g s w1 := by
  obtain ⟨O, h1, h2, h3, h4, h5, h6⟩ := h
  exact ⟨O, C.low h1 hb, h2, h3.below hb h3.lt, h4, h5.trans (hb.mono h5.size), h6⟩
theorem PlSt.drew (h : PlSt C w r g s wr) (hs : Same wr w1) : PlSt C w r g s w1 := h.low (hs.below _)
end
set_option maxRecDepth 100000 in
set_option maxHeartbeats 4000000 in
theorem lawP_any (C : Code9) (b : ByteArray) (l : List Op9) (v : Value) (w : World) (hv : OpsS w v l) (hl : MemOps l) : Calls Try.prog 3 #[.string b, v] w fun e w' => e = .returned (.bool true) ∧ Below w.heap.size w w' := by
  have HV := Lib.hid hv
  have HL := Lib.hid hl
  obtain ⟨a0, cap, rfl, _⟩ := hv
  clear hl
  go_enter Try.func3, Try.ntmps3
  go_wp2_with fail
  refine (awake9_any C _).mono ?_
  rintro e w1 ⟨rfl, hb1⟩
  have B1 := Lib.hid hb1
  clear hb1
  by_cases hlt : 500 < b.size
  · have t1 : (b.size : Int) > 500 := by omega
    clear hlt
    go_wp2_with fail
    refine (awake9_any C _).mono ?_
    rintro e w2 ⟨rfl, hb2⟩
    have B2 := Lib.hid (B1.out.trans (hb2.mono B1.out.size))
    clear hb2
    go_wp2_with fail
    go_ret
    exact ⟨rfl, B2.out⟩
  have t1 : ¬ (b.size : Int) > 500 := by omega
  have HZ := Lib.hid (show b.size ≤ 500 by omega)
  clear hlt
  go_wp2_with fail
  refine (few9_any l _ 60 _ (HV.out.below B1.out) HL.out.1).mono ?_
  rintro e w2 ⟨X, rfl, hX, hb2⟩
  have HX := Lib.hid hX
  have B2 := Lib.hid (B1.out.trans (hb2.mono B1.out.size))
  clear hX hb2
  cases X with
  | false =>
    go_wp2_with fail
    refine (awake9_any C _).mono ?_
    rintro e w3 ⟨rfl, hb3⟩
    have B3 := Lib.hid (B2.out.trans (hb3.mono B2.out.size))
    clear hb3
    go_wp2_with fail
    go_ret
    exact ⟨rfl, B3.out⟩
  | true =>
  have HLN := Lib.hid (show l.length ≤ 60 by have := HX.out rfl; omega)
  clear HX
  go_wp2_with fail
  refine (C.of b _ (by have := HZ.out; omega)).mono ?_
  rintro e w3 ⟨g, O, rfl, hg, hO, hb3⟩
  have HP3 := Lib.hid (show PlSt C w w3.heap.size g ⟨b, ⟨#[]⟩, -1, false⟩ (w3.alloc (.cells #[.string b, .string ⟨#[]⟩, .int .i64 (-1), .bool false] 29)) from
    ⟨O, C.low hg ((Below.refl _ _).alloc (Nat.le_refl _) _), fun x h => ⟨Nat.le_trans B2.out.size (hO x h), by have := C.lt hg x h; omega⟩, Blk.new' rfl (RR.row4_ _ _ _ _), Nat.le_trans B2.out.size hb3.size, (B2.out.trans (hb3.mono B2.out.size)).alloc (Nat.le_trans B2.out.size hb3.size) _, by show (-1 : Int) ≤ -1; omega, by show (-1 : Int) ≤ 9223372036854775807; omega⟩)
  obtain ⟨r, hr⟩ : ∃ r, w3.heap.size = r := ⟨_, rfl⟩
  clear hg hO hb3
  rw [hr] at HP3
  obtain ⟨wa, hwa⟩ : ∃ wa, w3.alloc (.cells #[.string b, .string ⟨#[]⟩, .int .i64 (-1), .bool false] 29) = wa := ⟨_, rfl⟩
  have HWA := Lib.hid hwa
  have HR := Lib.hid hr
  rw [hwa] at HP3
  clear hwa
  go_upto_region 5 with fail
  rw [HWA.out]
  clear hr
  go_wp2_with fail
  go_loopw [7] (fun y wr => ∃ (i : Nat) (s : Lg), i ≤ l.length ∧ y = .int .i64 (i : Int) ∧ PlSt C w r g s wr ∧ sizeL s ≤ 500 + i * 4004) (fun y _ => l.length - (intOf y).toNat)
  case atStart => exact ⟨0, _, Nat.zero_le _, rfl, HP3.out, by have := HZ.out; show b.size + 0 ≤ _; omega⟩
  case round =>
    obtain ⟨i, s, hi, rfl, hp, hsz⟩ := hrel
    have HP := Lib.hid hp
    have HSZ := Lib.hid hsz
    have i0 : (0 : Int) ≤ (i : Int) := by omega
    have ib : (i : Int) ≤ 60 := by have := HLN.out; omega
    clear hp hsz HP3
    by_cases hlt : i < l.length
    · have hlt' : (i : Int) < (l.length : Int) := by omega
      have HLT := Lib.hid hlt
      obtain ⟨ob, off, rfl, hob, _, hat⟩ := ops_at HV.out i hlt
      have HOB := Lib.hid hob
      obtain ⟨⟨k, B, N⟩, hP⟩ : ∃ P, l.getD i op0 = P := ⟨_, rfl⟩
      have HI := Lib.hid (HL.out.2 i)
      have HAT := Lib.hid (fun (wx : World) (hx : wx.heap[ob]? = w.heap[ob]?) => hat wx hx i hlt)
      rw [hP] at HI HAT
      simp only at HI HAT
      obtain ⟨S1, hS1⟩ : ∃ S1, doL s (k % 5) B N = S1 := ⟨_, rfl⟩
      obtain ⟨s1, E⟩ := S1
      have HS1 := Lib.hid hS1
      have HSZ1 := Lib.hid (show sizeL s1 ≤ 500 + (i + 1) * 4004 from by have := do_size s (k % 5) B N; rw [hS1] at this; have h := HSZ.out; simp only at this; omega)
      have HZ1 := Lib.hid (show sizeL s ≤ 1000000 ∧ sizeL s1 ≤ 1000000 from by have h := HSZ.out; have h1 := HSZ1.out; have := HLT.out; have := HLN.out; omega)
      clear hi hlt hob hat hP hS1
      go_upto_region 8 with fail
      refine planS_abs (fun wx => wx.heap[ob]? = w.heap[ob]?) (fun wx => Blk wx r 4 (lgRow s1)) 11 4 [(true, 0), (true, 1), (true, 2), (true, 3), (true, 4), (true, 6), (true, 7), (true, 8), (true, 9), (true, 10), (false, 5)] [(true, 12), (true, 13), (true, 14), (true, 16), (true, 17), (true, 18), (true, 19), (true, 20), (true, 21), (true, 22), (true, 23), (true, 24), (true, 25), (true, 26), (false, 15), (true, 27), (true, 28)] (by kernel_rfl) (by kernel_rfl) (fun _ _ d _ _ h => by cases d <;> exact h) fun w5 hs5 => ⟨?_, ?_⟩
      · obtain ⟨_, _, _, _, _, hb, _⟩ := HP.out.drew hs5
        exact hb.block ob HOB.out
      have HP5 := Lib.hid (HP.out.drew hs5)
      clear hs5
      iterate 10 (refine ps_run _ ?_ rfl rfl ?_ ?_; rotate_left; (focus (intro w' hS; obtain ⟨c0, c1, c2⟩ := HAT.out w' hS; go_simp; exact rfl)); simp only [Act.put, List.setIfInBounds_toArray, List.set_cons_zero, List.set_cons_succ, List.getElem_toArray, List.getElem_cons_zero, List.getElem_cons_succ])
      obtain ⟨O5, hA5, hO5, hB5, hr5, hb5, hok⟩ := HP5.out
      have HOK := Lib.hid (And.intro hok (show OkL s1 from by have := ok_do hok (k % 5) B HI.out.2.2.2; rw [HS1.out] at this; exact this))
      have HS5 := Lib.hid (show w5.heap[ob]? = w.heap[ob]? from hb5.block ob HOB.out)
      have HO5 := Lib.hid hO5
      have HR5 := Lib.hid hr5
      have HB5 := Lib.hid (And.intro hB5 hb5)
      clear hok hO5 hr5 hB5 hb5
      refine ps_call (R := fun u w' => u = .int .i64 E ∧ Next9 C.At O5 w5 g s1 w') _ rfl rfl (by go_simp) ((call9_any C O5 w5 g s k B N HI.out.1 hA5 HOK.out.1 HZ1.out.1 HI.out.2.1 HI.out.2.2).mono fun e w' hq => by rw [HS1.out] at hq; exact ⟨_, hq.1, rfl, hq.2⟩) (fun u w' h => ?_) fun u w6 hr => ?_
      · obtain ⟨_, _, hk, _⟩ := h.2
        exact (hk.block ob (fun ho => absurd (HO5.out ob ho).1 (by have := HOB.out; omega)) (Nat.lt_of_lt_of_le HOB.out HB5.out.2.size)).trans HS5.out
      obtain ⟨rfl, O6, hA6, hk6, ho6⟩ := hr
      have HO6 := Lib.hid (show ∀ x, O6 x → w.heap.size ≤ x ∧ x ≠ r from fun x h => (ho6 x h).elim (HO5.out x) fun h => ⟨Nat.le_trans HB5.out.2.size h, by have := HB5.out.1.lt; omega⟩)
      have HB6 := Lib.hid (show Blk w6 r 4 (lgRow s) from HB5.out.1.of_heap (hk6.block r (fun h => (HO5.out r h).2 rfl) HB5.out.1.lt))
      have HL6 := Lib.hid (show Below w.heap.size w w6 from HB5.out.2.trans (Keeps.low9 hk6 (fun x hx hO' => absurd (HO5.out x hO').1 (by omega)) HB5.out.2.size))
      have HA6 := Lib.hid hA6
      clear hA5 hA6 hk6 ho6
      simp only [Act.put, List.setIfInBounds_toArray, List.set_cons_zero, List.set_cons_succ, List.getElem_toArray, List.getElem_cons_zero, List.getElem_cons_succ]
      refine ps_turn (R := fun u w' => u = .int .i64 E ∧ Blk w' r 4 (lgRow s1) ∧ ButR r w6 w') _ rfl rfl (by go_simp) ((do_any s k B N r w6 HI.out.1 HB6.out HOK.out.1.2 HZ1.out.1).mono fun e w' hq => by rw [HS1.out] at hq; exact ⟨_, hq.1, rfl, hq.2⟩) (fun u w' h => h.2.1) fun u w7 hr => ?_
      obtain ⟨rfl, hB7, hk7⟩ := hr
      have HP7 := Lib.hid (show PlSt C w r g s1 w7 from ⟨O6, C.keep HA6.out (hk7.sub fun x h _ => (HO6.out x h).2), HO6.out, hB7, HR5.out, HL6.out.trans (Keeps.low9 hk7 (fun x hx => by have := HR5.out; omega) HL6.out.size), HOK.out.2⟩)
      clear hB7 hk7 HO6 HB6 HL6 HA6 HB5 HO5 HS5 HP5
      simp only [Act.put, List.setIfInBounds_toArray, List.set_cons_zero, List.set_cons_succ, List.getElem_toArray, List.getElem_cons_zero, List.getElem_cons_succ]
      refine pl_run _ (.bool false) rfl rfl (fun w' hS => by go_simp) ?_
      simp only [Act.put, List.setIfInBounds_toArray, List.set_cons_zero, List.set_cons_succ, List.getElem_toArray, List.getElem_cons_zero, List.getElem_cons_succ]
      iterate 2 (refine pl_run _ ?_ rfl rfl ?_ ?_; rotate_left; (focus (intro w' hS; go_simp; exact rfl)); simp only [Act.put, List.setIfInBounds_toArray, List.set_cons_zero, List.set_cons_succ, List.getElem_toArray, List.getElem_cons_zero, List.getElem_cons_succ])
      iterate 10 (refine pl_run _ ?_ rfl rfl ?_ ?_; rotate_left; (focus (intro w' hS; obtain ⟨c0, c1, c2, c3⟩ := lg_cells hS; go_simp; exact rfl)); simp only [Act.put, List.setIfInBounds_toArray, List.set_cons_zero, List.set_cons_succ, List.getElem_toArray, List.getElem_cons_zero, List.getElem_cons_succ])
      have m0 : (0 : Int) ≤ (s1.safe.size : Int) := by omega
      have m1 : (s1.safe.size : Int) + (s1.wait.size : Int) = (sizeL s1 : Int) := by unfold sizeL; omega
      have m2 : (0 : Int) ≤ (sizeL s1 : Int) := by omega
      have m3 : (sizeL s1 : Int) ≤ 1000000 := by have := HZ1.out.2; omega
      have m4 : IntKind.i64.wrap ((s1.safe.size : Int) + (s1.wait.size : Int)) = (sizeL s1 : Int) := by rw [m1]; exact IntWalk.i64_in _ (by omega)
      refine pl_run _ (.int .i64 (sizeL s1 : Int)) rfl rfl (fun w' hS => by go_simp; exact IntWalk.i64_in _ (by omega)) ?_
      simp only [Act.put, List.setIfInBounds_toArray, List.set_cons_zero, List.set_cons_succ, List.getElem_toArray, List.getElem_cons_zero, List.getElem_cons_succ]
      refine pl_call1 (f := 11) (args := #[.pointer (some ⟨g, 0, none⟩)]) (v := .int .i64 (sizeL s1 : Int)) (R := fun w' => Below w7.heap.size w7 w') _ rfl rfl (by go_simp) ?_ (fun w' h => ?_) fun w8 hr => ?_
      · obtain ⟨O7, hA7, _, _, _, _, _⟩ := HP7.out
        exact C.len O7 w7 g s1 hA7 HOK.out.2 HZ1.out.2
      · obtain ⟨O7, _, _, hB7, _, _, _⟩ := HP7.out
        exact hB7.below h hB7.lt
      have HP8 := Lib.hid (HP7.out.low hr)
      clear hr HP7
      simp only [Act.put, List.setIfInBounds_toArray, List.set_cons_zero, List.set_cons_succ, List.getElem_toArray, List.getElem_cons_zero, List.getElem_cons_succ]
      refine pl_run _ (.bool false) rfl rfl (fun w' hS => by go_simp) ?_
      simp only [Act.put, List.setIfInBounds_toArray, List.set_cons_zero, List.set_cons_succ, List.getElem_toArray, List.getElem_cons_zero, List.getElem_cons_succ]
      iterate 1 (refine pl_run _ ?_ rfl rfl ?_ ?_; rotate_left; (focus (intro w' hS; go_simp; exact rfl)); simp only [Act.put, List.setIfInBounds_toArray, List.set_cons_zero, List.set_cons_succ, List.getElem_toArray, List.getElem_cons_zero, List.getElem_cons_succ])
      refine pl_end ?_
      clear m0 m1 m2 m3 m4
      go_wp2_with fail
      obtain ⟨O8, hA8, _, _, _, _, _⟩ := HP8.out
      refine (C.records O8 _ g _ hA8 HOK.out.2 HZ1.out.2).mono ?_
      rintro e w9 ⟨vr, rfl, hvr, hb9⟩
      have HP9 := Lib.hid (HP8.out.low hb9)
      have HVR := Lib.hid hvr.at_
      clear hA8 hvr hb9 HP8
      obtain ⟨ra, rc, hrv⟩ : ∃ ra rc, vr = .slice ra (recsL s1).length rc := by obtain ⟨a, c, h, _⟩ := HVR.out; exact ⟨a, c, h⟩
      subst hrv
      have HC := Lib.hid (fun (wx : World) (hx : PlSt C w r g s1 wx) => show wx.cell? ⟨r, 0, none⟩ = some (.string s1.safe) ∧ wx.cell? ⟨r, 1, none⟩ = some (.string s1.wait) ∧ wx.cell? ⟨r, 2, none⟩ = some (.int .i64 s1.fuse) ∧ wx.cell? ⟨r, 3, none⟩ = some (.bool s1.gone) from by
        obtain ⟨_, _, _, h, _⟩ := hx; exact lg_cells h)
      obtain ⟨c0, c1, c2, c3⟩ := HC.out w9 HP9.out
      cases hgone : s1.gone with
      | true =>
        rw [hgone] at c3
        have e0 : recsL s1 = [] := by unfold recsL; rw [if_pos hgone]
        rw [e0, if_pos (rfl : (true : Bool) = true)]
        have l0 : ([] : List ByteArray).length = 0 := rfl
        rw [l0]
        clear hgone e0 HVR
        go_wp2_with fail
        go_roundw
        case rel => exact ⟨i + 1, s1, by have := HLT.out; omega, by go_num, HP9.out, HSZ1.out⟩
        case measure => have := HLT.out; simp [intOf]; omega
      | false =>
        rw [hgone] at c3
        rw [if_neg (show ¬ ((false : Bool) = true) by simp)]
        have HREC := Lib.hid (show recsL s1 = (splitS (s1.safe ++ s1.wait)).1 from by unfold recsL; rw [if_neg (by rw [hgone]; simp)])
        have HBS := Lib.hid (show (s1.safe ++ s1.wait).size ≤ 1000000 from by have h := HZ1.out.2; unfold sizeL at h; rw [ByteArray.size_append]; exact h)
        have HLR := Lib.hid (show (recsL s1).length ≤ 1000000000 from by
          have := split_end ((s1.safe ++ s1.wait).size + 1) (s1.safe ++ s1.wait) (Nat.lt_succ_self _)
          rw [HREC.out]
          have h := HBS.out
          omega)
        clear hgone
        go_upto_region 14 with fail
        clear c0 c1 c2 c3
        have hcat : ¬ 9223372036854775807 < s1.safe.size + s1.wait.size := by have h := HZ1.out.2; unfold sizeL at h; omega
        refine plan_abs (fun wx => PlSt C w r g s1 wx ∧ Below w9.heap.size w9 wx) [(true, 0), (true, 1), (true, 2), (true, 3), (true, 4), (true, 5), (true, 6), (true, 7), (true, 8), (false, 9), (true, 10), (true, 11), (true, 12), (true, 13), (true, 14)] (by kernel_rfl) (by kernel_rfl) (fun _ _ d _ _ h => by cases d <;> exact h) fun wd hsd => ⟨⟨HP9.out.drew hsd, hsd.below _⟩, ?_⟩
        have Yd := Lib.hid (And.intro (HP9.out.drew hsd) (hsd.below w9.heap.size))
        clear hsd
        iterate 9 (refine pl_run _ ?_ rfl rfl ?_ ?_; rotate_left; (focus (intro w' hS; obtain ⟨c0, c1, c2, c3⟩ := HC.out w' hS.1; go_simp; exact rfl)); simp only [Act.put, List.setIfInBounds_toArray, List.set_cons_zero, List.set_cons_succ, List.getElem_toArray, List.getElem_cons_zero, List.getElem_cons_succ])
        refine pl_call (R := fun u w' => (∃ v n, u = .tuple #[v, .int .i64 n] ∧ StrsAt w' v (recsL s1)) ∧ Below wd.heap.size wd w') _ rfl rfl (by go_simp) ((rsplit_any ((s1.safe ++ s1.wait).size + 1) (s1.safe ++ s1.wait) wd (Nat.lt_succ_self _) HBS.out).mono fun e w' hq => by
          obtain ⟨u, h1, h2, h3⟩ := hq
          exact ⟨_, h1, ⟨u, _, rfl, by rw [HREC.out]; exact h2.in_.at_⟩, h3⟩) (fun u w' h => ⟨Yd.out.1.low h.2, Yd.out.2.trans (h.2.mono Yd.out.2.size)⟩) fun u w10 hr => ?_
        obtain ⟨⟨wv, wn, rfl, hwv⟩, hb10⟩ := hr
        have HP10 := Lib.hid (Yd.out.1.low hb10)
        have HW10 := Lib.hid hwv
        have HV10 := Lib.hid (HVR.out.later (Yd.out.2.trans (hb10.mono Yd.out.2.size)))
        clear hwv hb10 Yd HVR HP9
        simp only [Act.put, List.setIfInBounds_toArray, List.set_cons_zero, List.set_cons_succ, List.getElem_toArray, List.getElem_cons_zero, List.getElem_cons_succ]
        iterate 5 (refine pl_run _ ?_ rfl rfl ?_ ?_; rotate_left; (focus (intro w' hS; go_simp; exact rfl)); simp only [Act.put, List.setIfInBounds_toArray, List.set_cons_zero, List.set_cons_succ, List.getElem_toArray, List.getElem_cons_zero, List.getElem_cons_succ])
        refine pl_end ?_
        go_wp2_with fail
        refine (rsame9_any (recsL s1) (recsL s1) _ _ _ HV10.out HW10.out HLR.out).mono ?_
        rintro e w11 ⟨rfl, hb11⟩
        rw [decide_eq_true (rfl : recsL s1 = recsL s1)]
        have HP11 := Lib.hid (HP10.out.low hb11)
        clear hb11
        go_wp2_with fail
        go_roundw
        case rel => exact ⟨i + 1, s1, by have := HLT.out; omega, by go_num, HP11.out, HSZ1.out⟩
        case measure => have := HLT.out; simp [intOf]; omega
    · have hlt' : ¬ (i : Int) < (l.length : Int) := by omega
      clear hlt hi
      go_wp2_with fail
      go_ret
      obtain ⟨_, _, _, _, _, h, _⟩ := HP.out
      exact ⟨rfl, h⟩
end Go.Proofs.Ytggpiajmelhblaa
end
section
open Go Go.RowKit
namespace SS
open WW BB FF
abbrev RunS := Lg × List ByteArray × Nat
def nextS (all : List ByteArray) (n : Nat) (b : ByteArray) (k : Nat) (r : Lg × Int) : RunS := (r.1, if r.2 = 0 ∧ k = 0 then all ++ [b] else all, if r.2 = 0 ∧ k = 1 then all.length else n)
theorem next0 (all : List ByteArray) (n : Nat) (b : ByteArray) (r : Lg × Int) : nextS all n b 0 r = (r.1, if r.2 = 0 then all ++ [b] else all, n) := by unfold nextS; simp
theorem next1 (all : List ByteArray) (n : Nat) (b : ByteArray) (r : Lg × Int) : nextS all n b 1 r = (r.1, all, if r.2 = 0 then all.length else n) := by unfold nextS; simp
theorem next2 (all : List ByteArray) (n : Nat) (b : ByteArray) (r : Lg × Int) : nextS all n b 2 r = (r.1, all, n) := by unfold nextS; simp
/-- one call -/
def stepS (st : RunS) (o : Op9) : RunS := if 2 < o.1 % 5 then st else nextS st.2.1 st.2.2 o.2.1 (o.1 % 5) (doL st.1 (o.1 % 5) o.2.1 o.2.2)
def runS (l : List Op9) (st : RunS) : RunS := l.foldl stepS st
theorem run_next {l : List Op9} {i : Nat} (h : i < l.length) (st : RunS) : runS (l.take (i + 1)) st = stepS (runS (l.take i) st) (l.getD i op0) := by
  unfold runS
  rw [List.take_add_one, List.getElem?_eq_getElem h, List.foldl_append, List.getD_eq_getElem?_getD, List.getElem?_eq_getElem h]
  rfl
/-- what is safe is what was synced; with what waits it is what was appended -/
def InvS (s : Lg) (all : List ByteArray) (n : Nat) : Prop := s.safe ++ s.wait = encL all ∧ s.safe = encL (all.take n) ∧ n ≤ all.length ∧ ∀ r ∈ all, fitR r
theorem InvS.same {s s' : Lg} {all : List ByteArray} {n : Nat} (h : InvS s all n) (h1 : s'.safe = s.safe) (h2 : s'.wait = s.wait) : InvS s' all n := by
  unfold InvS; rw [h1, h2]; exact h
theorem inv_step {st : RunS} {r0 : Nat} (o : Op9) (h : InvS st.1 st.2.1 (max st.2.2 r0)) (hr : r0 ≤ st.2.1.length) :
    InvS (stepS st o).1 (stepS st o).2.1 (max (stepS st o).2.2 r0) ∧ r0 ≤ (stepS st o).2.1.length := by
  obtain ⟨s, all, n⟩ := st
  obtain ⟨k, b, i⟩ := o
  unfold stepS
  simp only at h hr ⊢
  obtain ⟨b1, b2, b3⟩ := burn_same s
  by_cases hk : 2 < k % 5
  · rw [if_pos hk]; exact ⟨h, hr⟩
  rw [if_neg hk]
  obtain ⟨j, hj⟩ : ∃ j, k % 5 = j := ⟨_, rfl⟩
  rw [hj] at hk ⊢
  match j, hk with
  | 0, _ =>
    rw [show doL s 0 b i = appendL s b from rfl, next0]
    simp only
    unfold appendL
    by_cases hg : s.gone = true
    · rw [if_pos hg, if_neg (fun c => by cases c)]; exact ⟨h, hr⟩
    · rw [if_neg hg]
      by_cases hb : b.size = 0 ∨ 4000 < b.size
      · rw [if_pos hb, if_neg (fun c => by cases c)]; exact ⟨h, hr⟩
      · rw [if_neg hb]
        by_cases hf : s.fuse = 0
        · rw [if_pos hf, if_neg (fun c => by cases c)]; exact ⟨h.same rfl rfl, hr⟩
        · rw [if_neg hf, if_pos rfl]
          have hfit : fitR b := by unfold fitR; omega
          obtain ⟨h1, h2, h3, h4⟩ := h
          refine ⟨⟨?_, ?_, ?_, ?_⟩, ?_⟩
          · show (burnL s).safe ++ (s.wait ++ txt b) = _
            rw [b1, ← ByteArray.append_assoc, h1, enc_append, txt_enc hfit]
            show _ = encL all ++ (encR b ++ ⟨#[]⟩)
            rw [app_nil]
          · show (burnL s).safe = _
            rw [b1, h2, List.take_append_of_le_length h3]
          · rw [List.length_append]; omega
          · intro r hr'
            rcases List.mem_append.1 hr' with h' | h'
            · exact h4 r h'
            · rw [List.mem_singleton.1 h']; exact hfit
          · rw [List.length_append]; omega
  | 1, _ =>
    rw [show doL s 1 b i = syncL s from rfl, next1]
    simp only
    refine ⟨?_, hr⟩
    unfold syncL
    by_cases hg : s.gone = true
    · rw [if_pos hg, if_neg (fun c => by cases c)]; exact h
    · rw [if_neg hg]
      by_cases hf : s.fuse = 0
      · rw [if_pos hf, if_neg (fun c => by cases c)]; exact h.same rfl rfl
      · rw [if_neg hf, if_pos rfl, Nat.max_eq_left hr]
        obtain ⟨h1, h2, h3, h4⟩ := h
        refine ⟨?_, ?_, Nat.le_refl _, h4⟩
        · show (s.safe ++ s.wait) ++ (⟨#[]⟩ : ByteArray) = _
          rw [app_nil, h1]
        · show s.safe ++ s.wait = _
          rw [List.take_length, h1]
  | 2, _ =>
    rw [show doL s 2 b i = (fuseL s i, 0) from rfl, next2]
    simp only
    refine ⟨?_, hr⟩
    unfold fuseL
    split
    · exact h
    · exact h.same rfl rfl
  | j + 3, hk => exact absurd (by omega) hk
theorem inv_run (l : List Op9) : ∀ (st : RunS) (r0 : Nat), InvS st.1 st.2.1 (max st.2.2 r0) → r0 ≤ st.2.1.length → InvS (runS l st).1 (runS l st).2.1 (max (runS l st).2.2 r0) ∧ r0 ≤ (runS l st).2.1.length := by
  induction l with
  | nil => intro st r0 h hr; exact ⟨h, hr⟩
  | cons o l ih =>
    intro st r0 h hr
    obtain ⟨h1, h2⟩ := inv_step o h hr
    exact ih (stepS st o) r0 h1 h2
theorem cut_is (b : ByteArray) : cutL ⟨b, ⟨#[]⟩, -1, false⟩ = ⟨encL (splitS b).1, ⟨#[]⟩, -1, false⟩ := by
  obtain ⟨h1, h2⟩ := split_bytes (b.size + 1) b (Nat.lt_succ_self _)
  have he := (split_end (b.size + 1) b (Nat.lt_succ_self _)).1
  unfold cutL
  simp only
  rw [app_nil, Nat.min_eq_left he, h1]
  congr 1
  apply ba_nil
  rw [ByteArray.size_extract]; omega
/-- behind a crash -/
theorem inv_crash {s : Lg} {all : List ByteArray} {n : Nat} (h : InvS s all n) (c : Int) : ∃ j, n ≤ j ∧ j ≤ all.length ∧ (crashL s c).gone = false ∧ recsL (crashL s c) = all.take j ∧
    cutA (crashL s c) = (⟨encL (all.take j), ⟨#[]⟩, -1, false⟩, 0) ∧ InvS ⟨encL (all.take j), ⟨#[]⟩, -1, false⟩ (all.take j) (all.take j).length := by
  obtain ⟨h1, h2, h3, h4⟩ := h
  obtain ⟨m, hm⟩ : ∃ m, keepN c s.wait.size = m := ⟨_, rfl⟩
  obtain ⟨j, j1, j2, j3⟩ := split_part all (s.safe.size + m) h4
  have e : s.safe ++ s.wait.extract 0 m = (encL all).extract 0 (s.safe.size + m) := by
    rw [← h1, ext_app _ _ _ (by omega), Nat.add_sub_cancel_left]
  have ec : crashL s c = ⟨(encL all).extract 0 (s.safe.size + m), ⟨#[]⟩, -1, false⟩ := by unfold crashL; rw [hm, e]
  have hfit : ∀ r ∈ all.take j, fitR r := fun r hr => h4 r (List.mem_of_mem_take hr)
  refine ⟨j, j3 n h3 (by rw [← h2]; omega), j1, by rw [ec], ?_, ?_, ?_, ?_, ?_, hfit⟩
  · rw [ec]; unfold recsL
    rw [if_neg (by simp)]
    simp only
    rw [app_nil, j2]
  · rw [ec]; unfold cutA
    rw [if_neg (by simp), cut_is, j2]
  · exact app_nil _
  · show encL (all.take j) = _
    rw [List.take_length]
  · exact Nat.le_refl _
theorem run_size (l : List Op9) : ∀ st : RunS, sizeL (runS l st).1 ≤ sizeL st.1 + l.length * 4004 := by
  induction l with
  | nil => intro st; show sizeL st.1 ≤ sizeL st.1 + 0 * 4004; omega
  | cons o l ih =>
    intro st
    have := ih (stepS st o)
    have hs : sizeL (stepS st o).1 ≤ sizeL st.1 + 4004 := by
      unfold stepS
      split
      · omega
      · exact do_size _ _ _ _
    show sizeL (runS l (stepS st o)).1 ≤ _
    rw [List.length_cons]; omega
theorem run_len (l : List Op9) : ∀ st : RunS, (runS l st).2.1.length ≤ st.2.1.length + l.length := by
  induction l with
  | nil => intro st; exact Nat.le_refl _
  | cons o l ih =>
    intro st
    have := ih (stepS st o)
    have hs : (stepS st o).2.1.length ≤ st.2.1.length + 1 := by
      unfold stepS
      split
      · omega
      · unfold nextS
        simp only
        split
        · rw [List.length_append]; exact Nat.le_refl _
        · omega
    show (runS l (stepS st o)).2.1.length ≤ _
    rw [List.length_cons]; omega
end SS
end
section
open Go Go.RowKit
namespace Go.Proofs.Ytggpiajmelhblaa
open SS RR FF JJ CC WW BB
/-- what has come of some calls: the log, what was appended (in a row of the call's own that is not the log's), how many are synced -/
def RnSt (C : Code9) (W : World) (t : TypeId) (g : Nat) (st : RunS) (x : Value) (wr : World) : Prop :=
  ∃ O, C.At O wr g st.1 ∧ (∀ b, O b → W.heap.size ≤ b) ∧ wr.ownsRow W.heap.size t 1 x st.2.1.length (st.2.1.map Value.string) ∧ (∀ b, x.ownBlock = some b → ¬ O b) ∧ Below W.heap.size W wr ∧ OkL st.1
section
variable {C : Code9} {W wr w1 : World} {t : TypeId} {g : Nat} {st : RunS} {x : Value}
theorem RnSt.low (h : RnSt C W t g st x wr) (hb : Below wr.heap.size wr w1) : RnSt C W t g st x w1 := by
  obtain ⟨O, h1, h2, h3, h4, h5, h6⟩ := h
  exact ⟨O, C.low h1 hb, h2, row_keep h3 fun c hc => hb.block c (h3.lt c hc).2, h4, h5.trans (hb.mono h5.size), h6⟩
theorem RnSt.below (h : RnSt C W t g st x wr) : Below W.heap.size W wr := by
  obtain ⟨_, _, _, _, _, h, _⟩ := h; exact h
theorem RnSt.shape (h : RnSt C W t g st x wr) : ∃ a c, x = .slice a st.2.1.length c := by
  obtain ⟨_, _, _, h, _⟩ := h
  rcases h.2 with ⟨rfl, h0⟩ | ⟨g, cap, cur, h, _⟩
  · exact ⟨none, 0, by rw [h0]⟩
  · exact ⟨_, _, h⟩
/-- behind a call -/
theorem RnSt.next {s s' : Lg} {all : List ByteArray} {n m : Nat} (h : RnSt C W t g (s, all, n) x wr) (ho : OkL s') (hx : ∃ O, (∀ b, O b → W.heap.size ≤ b) ∧ (∀ b, x.ownBlock = some b → ¬ O b) ∧ Next9 C.At O wr g s' w1) : RnSt C W t g (s', all, m) x w1 := by
  obtain ⟨_, _, _, h3, _, h5, _⟩ := h
  obtain ⟨O, hO, hb, O', g1, g2, g3⟩ := hx
  exact ⟨O', g1, fun b hb' => (g3 b hb').elim (hO b) fun h => Nat.le_trans h5.size h, row_keep h3 fun c hc => g2.block c (hb c hc) (h3.lt c hc).2,
    fun b hx' hO' => (g3 b hO').elim (hb b hx') fun h => by have := (h3.lt b hx').2; omega, h5.trans (Keeps.low9 g2 (fun b hl hO' => absurd (hO b hO') (by omega)) h5.size), ho⟩
end
theorem und_strs9 : Try.prog.underlying 36 = some (.slice 9) := by kernel_rfl
set_option maxRecDepth 100000 in
set_option maxHeartbeats 8000000 in
theorem run9_any (C : Code9) (W w : World) (l : List Op9) (v u : Value) (hv : List ByteArray) (O : Nat → Prop) (g : Nat) (s0 : Lg) (h1 : OpsS W v l) (h2 : MemOps l) (h3 : l.length ≤ 20) (h4 : Below W.heap.size W w) (h5 : StrsIn (fun _ => True) w u hv) (h6 : hv.length ≤ 100000)
    (h7 : C.At O w g s0) (h8 : ∀ b, O b → W.heap.size ≤ b) (h9 : OkL s0) (h10 : sizeL s0 ≤ 500000) :
    Calls Try.prog 16 #[.pointer (some ⟨g, 0, none⟩), v, u] w fun e w' => ∃ x, e = .returned (.tuple #[x, .int .i64 ((runS l (s0, hv, 0)).2.2 : Int)]) ∧ RnSt C W 9 g (runS l (s0, hv, 0)) x w' := by
  have HV := Lib.hid h1
  have HM := Lib.hid h2
  have HL := Lib.hid h3
  have HB := Lib.hid h4
  have HU := Lib.hid h5
  have HUL := Lib.hid h6
  have HA := Lib.hid h7
  have HO := Lib.hid h8
  have HK := Lib.hid h9
  have HZ := Lib.hid h10
  obtain ⟨a0, cap, rfl, _⟩ := h1
  obtain ⟨ua, uc, rfl, hun, hur⟩ := h5
  clear h2 h3 h4 h6 h7 h8 h9 h10
  have HLT0 := Lib.hid (C.lt HA.out)
  obtain ⟨m, hm⟩ : ∃ m, hv.length = m := ⟨_, rfl⟩
  rw [hm] at HU ⊢
  have HMM := Lib.hid hm
  obtain ⟨ti, i1, i2, i3, i4⟩ := info_parts sinfo_str
  go_enter Try.func16, Try.ntmps16
  go_upto_region 1 with fail
  go_cut [8] from 12 to 14 (fun x wx => RnSt C W 9 g (s0, hv, 0) x wx)
  case first =>
    have A1 := Lib.hid ((Below.refl w.heap.size w).alloc (Nat.le_refl _) (.cells #[] 9))
    have hown : (w.alloc (.cells #[] 9)).ownsRow w.heap.size 9 1 (.slice (some ⟨w.heap.size, 0, none⟩) 0 0) 0 [] := World.ownsRow_made w #[] 0 (Nat.le_refl _) (Nat.zero_le _) (by simp)
    cases ua with
    | none =>
      obtain rfl := hun rfl
      have hm0 : hv = [] := by
        rcases hur with h | ⟨b, off, h, _⟩
        · exact h
        · cases h
      obtain rfl : 0 = m := by rw [← hm, hm0]; rfl
      go_wp2_with (at_builtin; refine wpList_append_own_none _ rfl _ _ 36 rfl w.heap.size 9 ti 1 (by kernel_rfl) i1 (.slice (some ⟨w.heap.size, 0, none⟩) 0 0) 0 [] rfl hown rfl ?_)
      go_meet
      refine ⟨O, C.low HA.out A1.out, HO.out, ?_, ?_, HB.out.trans (A1.out.mono HB.out.size), HK.out⟩
      · rw [hm0]; exact own_base hown HB.out.size
      · intro b hb hO
        injection hb with hb
        have := HLT0.out b hO
        have hb : w.heap.size = b := hb
        omega
    | some ad =>
      have HC1 := Lib.hid (show ∀ j y, (hv.map Value.string)[j]? = some y → (w.alloc (.cells #[] 9)).cell? (ad.add j) = some y from fun j y hy => by
        have hj : j < hv.length := by have := (List.getElem?_eq_some_iff.1 hy).1; rwa [List.length_map] at this
        rcases hur with h | ⟨b, off, h, _, hl, hc⟩
        · rw [h] at hj; simp at hj
        · injection h with h
          subst h
          have h2 := hc j hj
          rw [List.getElem?_map, List.getElem?_eq_getElem hj] at hy
          injection hy with hy
          rw [← hy]
          have h3 : (w.alloc (.cells #[] 9)).cell? ⟨b, off + j, none⟩ = w.cell? ⟨b, off + j, none⟩ := A1.out.cell (p := ⟨b, off + j, none⟩) hl
          rw [Addr.add_lit, h3, h2, List.getD_eq_getElem?_getD, List.getElem?_eq_getElem hj]
          rfl)
      have HC2 := Lib.hid (show ∀ y ∈ hv.map Value.string, y.oneCell' = true from fun y hy => by obtain ⟨x, _, rfl⟩ := List.mem_map.1 hy; rfl)
      have HC3 := Lib.hid (show 0 + m ≤ maxLen from by have := HUL.out; unfold maxLen; omega)
      have HC4 := Lib.hid (show (0 + m) * 16 ≤ 140737488355328 from by have := HUL.out; omega)
      have HC5 := Lib.hid (show (hv.map Value.string).length = m * 1 by rw [List.length_map, hm, Nat.mul_one])
      have hbs := A1.out.size
      go_wp2_with (at_builtin; refine wpList_append_own _ rfl _ _ 36 rfl w.heap.size 9 ti (.string ⟨#[]⟩) 1 16 (by kernel_rfl) i1 i2 i3 i4 rfl (by decide) (.slice (some ⟨w.heap.size, 0, none⟩) 0 0) 0 [] rfl hown ad m uc (hv.map Value.string) rfl HC5.out HC1.out HC2.out HC3.out HC4.out hbs ?_)
      intro v' w' hown' hgr _
      have HOW := Lib.hid hown'
      have HG := Lib.hid (A1.out.grown hgr hbs (fun k hk => (hown.lt k hk).1))
      clear hown' hgr hown hbs i1 i2 i3 i4
      go_wp2_with fail
      go_meet
      have h := HOW.out
      rw [← HMM.out] at h
      exact ⟨O, C.low HA.out HG.out, HO.out, own_base h HB.out.size, fun b hb hO => by have := (h.lt b hb).1; have := HLT0.out b hO; omega, HB.out.trans (HG.out.mono HB.out.size), HK.out⟩
  case rest =>
    have HST0 := Lib.hid hcut
    clear hcut hun hur
    go_wp2_with fail
    go_loopw [8, 9, 10] (fun x c y wr => ∃ i : Nat, i ≤ l.length ∧ y = .int .i64 (i : Int) ∧ c = .int .i64 ((runS (l.take i) (s0, hv, 0)).2.2 : Int) ∧ RnSt C W 9 g (runS (l.take i) (s0, hv, 0)) x wr) (fun _ _ y _ => l.length - (intOf y).toNat)
    case atStart => exact ⟨0, Nat.zero_le _, rfl, rfl, HST0.out⟩
    case round =>
      obtain ⟨i, hi, rfl, rfl, hst⟩ := hrel
      have i0 : (0 : Int) ≤ (i : Int) := by omega
      have ib : (i : Int) ≤ 20 := by have := HL.out; omega
      clear HST0
      obtain ⟨st, hS⟩ : ∃ T, runS (l.take i) (s0, hv, 0) = T := ⟨_, rfl⟩
      have HSZ := Lib.hid (show sizeL st.1 ≤ 1000000 ∧ st.2.1.length ≤ 200000 from by
        have a1 := run_size (l.take i) (s0, hv, 0)
        have a2 := run_len (l.take i) (s0, hv, 0)
        rw [hS, List.length_take] at a1 a2
        have b1 := HZ.out
        have b2 := HUL.out
        have b3 := HL.out
        simp only at a1 a2
        omega)
      rw [hS] at hst ⊢
      have HS := Lib.hid hS
      obtain ⟨s, all, n⟩ := st
      obtain ⟨xa, xc, rfl⟩ := hst.shape
      have HST := Lib.hid hst
      clear hst hS
      simp only at HSZ ⊢
      by_cases hlt : i < l.length
      · have hlt' : (i : Int) < (l.length : Int) := by omega
        have HLT := Lib.hid hlt
        obtain ⟨ob, off, rfl, hob, _, hat⟩ := ops_at HV.out i hlt
        have HOB := Lib.hid hob
        obtain ⟨⟨k, B, N⟩, hP⟩ : ∃ P, l.getD i op0 = P := ⟨_, rfl⟩
        have HI := Lib.hid (HM.out.2 i)
        have HAT := Lib.hid (fun (wx : World) (hx : Below W.heap.size W wx) => hat wx (hx.block ob hob) i hlt)
        have HNX := Lib.hid (run_next hlt (s0, hv, 0))
        rw [hP] at HI HAT HNX
        rw [HS.out] at HNX
        simp only at HI HAT HNX
        clear hi hlt hob hat hP
        obtain ⟨c0, c1, c2⟩ := HAT.out wr HST.out.below
        obtain ⟨j, hj⟩ : ∃ j, k % 5 = j := ⟨_, rfl⟩
        have h5 : j < 5 := by rw [← hj]; exact Nat.mod_lt _ (by omega)
        have HJ := Lib.hid hj
        have e1 : ((k : Nat) : Int).tmod 5 = (j : Int) := by rw [Int.tmod_eq_emod_of_nonneg (by omega)]; omega
        have e2 : (k : Int) % 5 = (j : Int) := by omega
        by_cases h2 : 2 < j
        · have t1 : (j : Int) > 2 := by omega
          have HEQ := Lib.hid (show runS (l.take (i + 1)) (s0, hv, 0) = (s, all, n) from by rw [HNX.out]; unfold stepS; rw [if_pos (show 2 < k % 5 by omega)])
          clear h2 h5 hj
          go_wp2_with fail
          go_roundw
          case rel => exact ⟨i + 1, by have := HLT.out; omega, by go_num, by rw [HEQ.out], by rw [HEQ.out]; exact HST.out⟩
          case measure => have := HLT.out; simp [intOf]; omega
        · have t1 : ¬ (j : Int) > 2 := by omega
          obtain ⟨⟨s1, E⟩, hE⟩ : ∃ T, doL s j B N = T := ⟨_, rfl⟩
          have HE := Lib.hid hE
          have HEQ0 := Lib.hid (show runS (l.take (i + 1)) (s0, hv, 0) = nextS all n B j (s1, E) from by rw [HNX.out]; unfold stepS; rw [if_neg (show ¬ 2 < k % 5 by omega), hj]; simp only; rw [hE])
          have HJ3 := Lib.hid (show j < 3 by omega)
          obtain ⟨O1, hA1, hO1, hR1, hB1, hW1, hK1⟩ := HST.out
          have HC := Lib.hid (call9_any C O1 wr g s k B N HI.out.1 hA1 hK1 HSZ.out.1 HI.out.2.1 HI.out.2.2)
          rw [hj, hE] at HC
          have HK1 := Lib.hid (show OkL s1 from by have := ok_do hK1 j B HI.out.2.2.2; rw [hE] at this; exact this)
          have HOB1 := Lib.hid (And.intro hO1 hB1)
          clear h2 h5 hj hE hA1 hO1 hR1 hB1 hW1 hK1
          go_wp2_with fail
          refine (HC.out).mono ?_
          rintro e w2 ⟨rfl, hx⟩
          have H2 := Lib.hid (show ∀ m, RnSt C W 9 g (s1, all, m) (.slice xa all.length xc) w2 from fun m => HST.out.next HK1.out ⟨O1, HOB1.out.1, HOB1.out.2, hx⟩)
          clear hx c0 c1 c2 HC
          obtain ⟨c0, c1, c2⟩ := HAT.out w2 (H2.out 0).below
          simp only
          by_cases hE0 : E = 0
          · subst hE0
            match j, HJ3.out with
            | 0, _ =>
              have HEQ := Lib.hid (show runS (l.take (i + 1)) (s0, hv, 0) = (s1, all ++ [B], n) from by rw [HEQ0.out, next0, if_pos rfl])
              go_upto_region 9 with fail
              clear c0 c1 c2
              refine two_abs [1, 3, 4, 5, 6, 7] 0 2 8 45 47 53 [(false, 9), (true, 10)] _ _ _ 9 1 all.length (all.map Value.string) [.string B] (by kernel_rfl) (by kernel_rfl) (fun _ _ d _ _ h => by cases d <;> exact h) rfl rfl rfl ⟨rfl, rfl, rfl⟩ ⟨rfl, rfl, rfl⟩ ⟨by decide, by decide, by decide⟩ fun w3 hs3 => ?_
              have H3 := Lib.hid (fun m => (H2.out m).low (hs3.below w2.heap.size))
              clear hs3
              have HAT3 := Lib.hid (fun (wx : World) (hx : Below w3.heap.size w3 wx) => HAT.out wx ((H3.out 0).below.trans (hx.mono (H3.out 0).below.size)))
              have HONE := Lib.hid (show ∀ y ∈ all.map Value.string, y.oneCell' = true from fun y hy => by obtain ⟨x, _, rfl⟩ := List.mem_map.1 hy; rfl)
              obtain ⟨tj, i1, i2, i3, i4⟩ := info_parts sinfo_str
              simp only [pick, List.filterMap, List.getElem?_toArray, List.getElem?_cons_zero, List.getElem?_cons_succ]
              iterate 6 (refine held_run ?_ rfl ?_ ?_; rotate_left; (focus (intro w' hS; obtain ⟨c0, c1, c2⟩ := HAT3.out w' hS; go_simp; exact rfl)); simp only [Act.put, List.setIfInBounds_toArray, List.set_cons_zero, List.set_cons_succ])
              refine ⟨?_, ?_, ?_, ?_⟩
              · rintro a' (rfl | ⟨x, rfl⟩) w' <;> go_simp
              · rintro a' (rfl | ⟨x, rfl⟩ | ⟨x, z, rfl⟩) w' hb <;> go_simp
              · rintro b' a' ha w' hb hown
                obtain ⟨O3, _, _, hrow, _, _, _⟩ := H3.out 0
                obtain ⟨v', w'', hr, ho, hg, hob⟩ := run_append_row0 (P := Try.prog) w3.heap.size 36 36 9 tj (.string ⟨#[]⟩) 1 16 und_strs9 i1 i2 i3 i4 rfl (by decide) b' hown (.slice xa all.length xc) all.length W.heap.size (all.map Value.string) (row_keep hrow fun c hc => hb.block c (hrow.lt c hc).2) HONE.out (by have := HSZ.out.2; unfold maxLen; omega) (by have := HSZ.out.2; omega) hb.size
                refine ⟨v', w'', ?_, ho, hg, hob⟩
                rcases ha with rfl | ⟨x, rfl⟩ | ⟨x, rfl⟩
                all_goals exact run_op_append _ _ _ rfl _ _ rfl rfl hr
              · intro b' v' b7 w' hT
                have HTW := Lib.hid hT
                clear hT
                simp only [Act.put, List.setIfInBounds_toArray, List.set_cons_zero, List.set_cons_succ]
                obtain ⟨u8, w8, hr8, ho8, hg8, _⟩ := run_append_own (P := Try.prog) w' w3.heap.size 36 36 9 tj (.string ⟨#[]⟩) 1 16 und_strs9 i1 i2 i3 i4 rfl (by decide) v' all.length (all.map Value.string) HTW.out.row ⟨b7, 0, none⟩ 1 1 [.string B] rfl (fun j u hj => by rw [Addr.add_lit, Nat.zero_add]; exact HTW.out.cell j u hj) (fun y hy => by rw [List.mem_singleton.1 hy]; rfl) (by have := HSZ.out.2; unfold maxLen; omega) (by have := HSZ.out.2; omega) HTW.out.below.size
                have B8 := Lib.hid (HTW.out.below.grown hg8 HTW.out.below.size (fun k hk => (HTW.out.row.lt k hk).1))
                have H8 := Lib.hid (show RnSt C W 9 g (s1, all ++ [B], n) u8 w8 from by
                  obtain ⟨O3, hA3, hO3, _, _, hW3, hK3⟩ := H3.out n
                  refine ⟨O3, C.low hA3 B8.out, hO3, ?_, fun b hb hO => ?_, hW3.trans (B8.out.mono hW3.size), hK3⟩
                  · have h := own_base ho8 hW3.size
                    show w8.ownsRow W.heap.size 9 1 u8 (all ++ [B]).length ((all ++ [B]).map Value.string)
                    rw [List.length_append, List.map_append]
                    exact h
                  · have h1 := (ho8.lt b hb).1
                    have h2 := C.lt hA3 b hO
                    omega)
                refine pl_value (w' := w8) _ u8 rfl rfl (run_op_append _ _ _ rfl _ _ rfl rfl hr8) B8.out ?_
                clear hr8 ho8 hg8
                simp only [Act.put, List.setIfInBounds_toArray, List.set_cons_zero, List.set_cons_succ, List.getElem_toArray, List.getElem_cons_zero, List.getElem_cons_succ]
                iterate 1 (refine pl_run _ ?_ rfl rfl ?_ ?_; rotate_left; (focus (intro w' hS; go_simp; exact rfl)); simp only [Act.put, List.setIfInBounds_toArray, List.set_cons_zero, List.set_cons_succ, List.getElem_toArray, List.getElem_cons_zero, List.getElem_cons_succ])
                refine pl_end ?_
                obtain ⟨c0, c1, c2⟩ := HAT.out w8 H8.out.below
                go_wp2_with fail
                go_roundw
                case rel => exact ⟨i + 1, by have := HLT.out; omega, by go_num, by rw [HEQ.out], by rw [HEQ.out]; exact H8.out⟩
                case measure => have := HLT.out; simp [intOf]; omega
            | 1, _ =>
              have HEQ := Lib.hid (show runS (l.take (i + 1)) (s0, hv, 0) = (s1, all, all.length) from by rw [HEQ0.out, next1, if_pos rfl])
              go_wp2_with fail
              go_roundw
              case rel => exact ⟨i + 1, by have := HLT.out; omega, by go_num, by rw [HEQ.out], by rw [HEQ.out]; exact H2.out _⟩
              case measure => have := HLT.out; simp [intOf]; omega
            | 2, _ =>
              have HEQ := Lib.hid (show runS (l.take (i + 1)) (s0, hv, 0) = (s1, all, n) from by rw [HEQ0.out, next2])
              go_wp2_with fail
              go_roundw
              case rel => exact ⟨i + 1, by have := HLT.out; omega, by go_num, by rw [HEQ.out], by rw [HEQ.out]; exact H2.out _⟩
              case measure => have := HLT.out; simp [intOf]; omega
            | j + 3, h => exact absurd h (by omega)
          · have HEQ := Lib.hid (show runS (l.take (i + 1)) (s0, hv, 0) = (s1, all, n) from by
              rw [HEQ0.out]
              unfold nextS
              rw [if_neg (fun c => hE0 c.1), if_neg (fun c => hE0 c.1)])
            go_wp2_with fail
            go_roundw
            case rel => exact ⟨i + 1, by have := HLT.out; omega, by go_num, by rw [HEQ.out], by rw [HEQ.out]; exact H2.out _⟩
            case measure => have := HLT.out; simp [intOf]; omega
      · have hlt' : ¬ (i : Int) < (l.length : Int) := by omega
        have HEND := Lib.hid (show (s, all, n) = runS l (s0, hv, 0) from by rw [← HS.out, List.take_of_length_le (by omega)])
        clear hlt hi
        go_wp2_with fail
        go_ret2
        rw [← HEND.out]
        exact ⟨_, rfl, HST.out⟩
end Go.Proofs.Ytggpiajmelhblaa
end
section
open Go Go.RowKit
namespace SS
open WW BB FF
theorem strs_cut {w : World} {a : Option Addr} {n c : Nat} {l : List ByteArray} (h : StrsAt w (.slice a n c) l) (j : Nat) (hj : j ≤ l.length) (c' : Nat) : StrsAt w (.slice a j c') (l.take j) := by
  obtain ⟨a0, cap, e, h⟩ := h
  injection e with e1 e2 e3
  subst e1
  refine ⟨a, c', by rw [List.length_take_of_le hj], ?_⟩
  rcases h with rfl | ⟨b, off, e, hl, hc⟩
  · exact Or.inl (by simp)
  · refine Or.inr ⟨b, off, e, hl, fun i hi => ?_⟩
    rw [List.length_take_of_le hj] at hi
    rw [hc i (by omega), List.getD_eq_getElem?_getD, List.getD_eq_getElem?_getD, List.getElem?_take_of_lt hi]
end SS
namespace Go.Proofs.Ytggpiajmelhblaa
open SS RR FF CC WW BB
set_option maxRecDepth 100000 in
set_option maxHeartbeats 4000000 in
theorem begins9_any (C : Code9) (O : Nat → Prop) (w : World) (g : Nat) (s : Lg) (va : Value) (all : List ByteArray) (n j B : Nat) (hg : C.At O w g s) (ho : OkL s) (hs : sizeL s ≤ 1000000) (hgone : s.gone = false) (hr : recsL s = all.take j) (hn : n ≤ j) (hj : j ≤ all.length) (hl : all.length ≤ 1000000)
    (hv : w.ownsRow B 9 1 va all.length (all.map Value.string)) :
    Calls Try.prog 18 #[.pointer (some ⟨g, 0, none⟩), va, .int .i64 (n : Int)] w fun e w' => ∃ v, e = .returned (.tuple #[v, .bool true]) ∧ StrsIn (fun b => w.heap.size ≤ b) w' v (all.take j) ∧ Below w.heap.size w w' := by
  obtain ⟨a0, cap, rfl, hcap⟩ : ∃ a0 cap, va = .slice a0 all.length cap ∧ all.length ≤ cap := by
    rcases hv.2 with ⟨h1, h0⟩ | ⟨g, cap, cur, h1, _, _, h4, _⟩
    · exact ⟨none, 0, by rw [h1, h0], by omega⟩
    · exact ⟨_, cap, h1, h4⟩
  have hva := strs_own hv
  have HVA := Lib.hid hva
  have HREC := Lib.hid hr
  have HLJ := Lib.hid (show (all.take j).length = j from List.length_take_of_le hj)
  have HL := Lib.hid (show j ≤ 1000000 by omega)
  have HJ := Lib.hid hj
  have n0 : (0 : Int) ≤ (n : Int) := by omega
  have n1 : (n : Int) ≤ (j : Int) := by omega
  have n2 : (j : Int) ≤ (all.length : Int) := by omega
  have n3 : (j : Int) ≤ (cap : Int) := by omega
  have n4 : j ≤ cap := by omega
  have n5 : (0 : Int) ≤ (j : Int) := by omega
  have n6 : (j : Int) ≤ 1000000 := by omega
  have n7 : (all.length : Int) ≤ 1000000 := by omega
  have HC := Lib.hid (C.records O w g s hg ho hs)
  rw [hgone, hr, if_neg (show ¬ ((false : Bool) = true) by simp)] at HC
  clear hv hva hr hg ho hs hgone hn hj hl hcap
  go_enter Try.func18, Try.ntmps18
  go_wp2_with fail
  refine (HC.out).mono ?_
  rintro e w1 ⟨v, rfl, hv, hb1⟩
  have HV := Lib.hid hv
  have B1 := Lib.hid hb1
  obtain ⟨ra, rc, hrv⟩ : ∃ ra rc, v = .slice ra j rc := by obtain ⟨a, c, h, _⟩ := hv; exact ⟨a, c, by rw [h, HLJ.out]⟩
  subst hrv
  clear hv hb1
  go_wp2_with fail
  refine (rsame9_any (all.take j) (all.take j) _ _ _ HV.out.at_ (strs_cut (HVA.out.later B1.out) j HJ.out _) (by rw [HLJ.out]; have := HL.out; omega)).mono ?_
  rintro e w2 ⟨rfl, hb2⟩
  rw [decide_eq_true (rfl : all.take j = all.take j)]
  have B2 := Lib.hid (B1.out.trans (hb2.mono B1.out.size))
  have HV2 := Lib.hid (HV.out.keep (Keeps.of hb2))
  clear hb2
  go_wp2_with fail
  go_ret2
  exact ⟨_, rfl, HV2.out, B2.out⟩
end Go.Proofs.Ytggpiajmelhblaa
end
section
open Go Go.RowKit
namespace Go.Proofs.Ytggpiajmelhblaa
open SS RR FF CC WW BB
set_option maxRecDepth 100000 in
set_option maxHeartbeats 8000000 in
theorem lawC_any (C : Code9) (l : List Op9) (v : Value) (l' : List Op9) (v' : Value) (k0 k1 : Int) (w : World) (h1 : OpsS w v l) (h2 : MemOps l) (h3 : OpsS w v' l') (h4 : MemOps l') (h5 : -9223372036854775808 ≤ k0 ∧ k0 ≤ 9223372036854775807) (h6 : -9223372036854775808 ≤ k1 ∧ k1 ≤ 9223372036854775807) :
    Calls Try.prog 4 #[v, v', .agg #[.int .i64 k0, .int .i64 k1]] w fun e w' => e = .returned (.bool true) ∧ Below w.heap.size w w' := by
  have HV := Lib.hid h1
  have HM := Lib.hid h2
  have HV' := Lib.hid h3
  have HM' := Lib.hid h4
  have HK0 := Lib.hid h5
  have HK1 := Lib.hid h6
  obtain ⟨a0, c0, rfl, _⟩ := h1
  obtain ⟨a1, c1, rfl, _⟩ := h3
  obtain ⟨n0, hn0⟩ : ∃ n, l.length = n := ⟨_, rfl⟩
  obtain ⟨n1, hn1⟩ : ∃ n, l'.length = n := ⟨_, rfl⟩
  rw [hn0] at HV
  rw [hn1] at HV'
  have HN0 := Lib.hid hn0
  have HN1 := Lib.hid hn1
  rw [hn0, hn1]
  clear h2 h4 h5 h6 hn0 hn1
  have B0 := Lib.hid ((Below.refl w.heap.size w).alloc (Nat.le_refl _) (.cells #[.int .i64 k0, .int .i64 k1] 43))
  have P0 := Lib.hid (show Blk (w.alloc (.cells #[.int .i64 k0, .int .i64 k1] 43)) w.heap.size 2 (rowL [.int .i64 k0, .int .i64 k1]) from Blk.new' rfl (row2_ _ _))
  obtain ⟨w0, hw0⟩ : ∃ w0, w.alloc (.cells #[.int .i64 k0, .int .i64 k1] 43) = w0 := ⟨_, rfl⟩
  have HW0 := Lib.hid hw0
  rw [hw0] at B0 P0
  have S0 := Lib.hid (show w.heap.size < w0.heap.size from P0.out.lt)
  have HC := Lib.hid (fun (wx : World) (hb : Below w0.heap.size w0 wx) => show wx.cell? ⟨w.heap.size, 0, none⟩ = some (.int .i64 k0) ∧ wx.cell? ⟨w.heap.size, 1, none⟩ = some (.int .i64 k1) from cells2 (P0.out.below hb P0.out.lt))
  clear hw0
  go_enter Try.func4, Try.ntmps4
  go_upto_region 1 with fail
  rw [HW0.out]
  go_wp2_with fail
  refine (awake9_any C _).mono ?_
  rintro e w1 ⟨rfl, B1⟩
  have B1 := Lib.hid B1
  go_wp2_with fail
  refine (few9_any l _ 20 _ (by have h := HV.out.below (B0.out.trans (B1.out.mono B0.out.size)); exact h) HM.out.1).mono ?_
  rintro e w2 ⟨X, rfl, hX, B2⟩
  have HX := Lib.hid hX
  have B2 := Lib.hid (B1.out.trans (B2.mono B1.out.size))
  clear hX B1
  cases X with
  | false =>
    go_wp2_with fail
    refine (awake9_any C _).mono ?_
    rintro e w3 ⟨rfl, B3⟩
    have B3 := Lib.hid (B2.out.trans (B3.mono B2.out.size))
    go_wp2_with fail
    go_ret
    exact ⟨rfl, B0.out.trans (B3.out.mono B0.out.size)⟩
  | true =>
  have HL1 := Lib.hid (show l.length ≤ 20 by have := HX.out rfl; omega)
  clear HX
  go_wp2_with fail
  refine (few9_any l' _ 20 _ (by have h := HV'.out.below (B0.out.trans (B2.out.mono B0.out.size)); exact h) HM'.out.1).mono ?_
  rintro e w3 ⟨X', rfl, hX', B3⟩
  have HX' := Lib.hid hX'
  have B3 := Lib.hid (B2.out.trans (B3.mono B2.out.size))
  clear hX' B2
  cases X' with
  | false =>
    go_wp2_with fail
    refine (awake9_any C _).mono ?_
    rintro e w4 ⟨rfl, B4⟩
    have B4 := Lib.hid (B3.out.trans (B4.mono B3.out.size))
    go_wp2_with fail
    go_ret
    exact ⟨rfl, B0.out.trans (B4.out.mono B0.out.size)⟩
  | true =>
  have HL := Lib.hid (show l.length ≤ 20 ∧ l'.length ≤ 20 by have := HL1.out; have := HX'.out rfl; omega)
  clear HL1 HX'
  have HVW := Lib.hid (show OpsS w0 (.slice a0 n0 c0) l from HV.out.below B0.out)
  have HVW' := Lib.hid (show OpsS w0 (.slice a1 n1 c1) l' from HV'.out.below B0.out)
  go_wp2_with fail
  refine (C.new _).mono ?_
  rintro e w4 ⟨g, O, rfl, hg, hO, hb⟩
  have HG := Lib.hid hg
  have HO := Lib.hid (show ∀ x, O x → w0.heap.size ≤ x from fun x h => Nat.le_trans B3.out.size (hO x h))
  have B4 := Lib.hid (B3.out.trans (hb.mono B3.out.size))
  clear hg hO hb B3
  obtain ⟨⟨s1, all1, m1⟩, hR1⟩ : ∃ T, runS l (⟨⟨#[]⟩, ⟨#[]⟩, -1, false⟩, [], 0) = T := ⟨_, rfl⟩
  have I1 := Lib.hid (show InvS s1 all1 m1 ∧ sizeL s1 ≤ 80080 ∧ all1.length ≤ 20 from by
    have a := (inv_run l (⟨⟨#[]⟩, ⟨#[]⟩, -1, false⟩, [], 0) 0 ⟨rfl, rfl, Nat.le_refl _, fun r hr => by cases hr⟩ (Nat.le_refl _)).1
    have b := run_size l (⟨⟨#[]⟩, ⟨#[]⟩, -1, false⟩, [], 0)
    have c := run_len l (⟨⟨#[]⟩, ⟨#[]⟩, -1, false⟩, [], 0)
    rw [hR1] at a b c
    rw [Nat.max_eq_left (Nat.zero_le _)] at a
    have h := HL.out.1
    have z : sizeL ⟨⟨#[]⟩, ⟨#[]⟩, -1, false⟩ = 0 := rfl
    have z2 : ([] : List ByteArray).length = 0 := rfl
    simp only at b c
    exact ⟨a, by omega, by omega⟩)
  have HR1 := Lib.hid hR1
  clear hR1
  go_wp2_with fail
  refine (run9_any C w0 w4 l _ _ [] O g _ HVW.out HM.out HL.out.1 B4.out (StrsIn.nil _ _) (by decide) HG.out HO.out ⟨by decide, by decide⟩ (by decide)).mono ?_
  rintro e w5 ⟨x1, rfl, hst⟩
  rw [HR1.out] at hst ⊢
  have ST1 := Lib.hid hst
  obtain ⟨xa, xc, rfl⟩ := hst.shape
  clear hst HG HO B4
  simp only
  obtain ⟨d0, d1⟩ := HC.out w5 ST1.out.below
  go_wp2_with fail
  obtain ⟨O5, hA5, hO5, hw5, hne5, hb5, hk5⟩ := ST1.out
  have HOK := Lib.hid (show OkL (crashL s1 k0) from ok_do hk5 3 ⟨#[]⟩ (n := k0) HK0.out.2)
  have HZ := Lib.hid (show sizeL (crashL s1 k0) ≤ 100000 from by have h := do_size s1 3 ⟨#[]⟩ k0; have := I1.out.2.1; have h : sizeL (crashL s1 k0) ≤ sizeL s1 + 4004 := h; omega)
  have HNE := Lib.hid (And.intro hO5 hne5)
  refine (C.crash O5 w5 g s1 k0 hA5 hk5 (by have := I1.out.2.1; omega) HK0.out).mono ?_
  rintro e w6 ⟨rfl, hx⟩
  have ST2 := Lib.hid (show RnSt C w0 9 g (crashL s1 k0, all1, m1) (.slice xa all1.length xc) w6 from ST1.out.next HOK.out ⟨O5, HNE.out.1, HNE.out.2, hx⟩)
  clear hA5 hO5 hw5 hne5 hb5 hk5 hx HNE ST1 d0 d1
  obtain ⟨j, hj1, hj2, hgone, hrec, hcut, hinv⟩ := inv_crash I1.out.1 k0
  have HJ := Lib.hid (show j ≤ 20 by have := I1.out.2.2; omega)
  have HCUT := Lib.hid hcut
  have HBEG := Lib.hid (And.intro hgone (And.intro hrec (And.intro hj1 hj2)))
  have HINV := Lib.hid hinv
  have HS := Lib.hid (show sizeL ⟨encL (all1.take j), ⟨#[]⟩, -1, false⟩ ≤ 200000 from by
    have h := do_size (crashL s1 k0) 4 ⟨#[]⟩ 0
    have h : sizeL (cutA (crashL s1 k0)).1 ≤ sizeL (crashL s1 k0) + 4004 := h
    rw [hcut] at h
    have := HZ.out
    simp only at h
    omega)
  obtain ⟨R, hR⟩ : ∃ R, all1.take j = R := ⟨_, rfl⟩
  have HRL := Lib.hid (show R.length ≤ 20 from by rw [← hR, List.length_take]; have := HJ.out; omega)
  rw [hR] at HCUT HBEG HINV HS
  have HRR := Lib.hid hR
  obtain ⟨S, hS⟩ : ∃ S, (⟨encL R, ⟨#[]⟩, -1, false⟩ : Lg) = S := ⟨_, rfl⟩
  have HSOK := Lib.hid (show OkL S from by rw [← hS]; exact ⟨by show (-1 : Int) ≤ -1; omega, by show (-1 : Int) ≤ 9223372036854775807; omega⟩)
  rw [hS] at HCUT HINV HS
  clear hgone hrec hcut hinv hj1 hj2 hR hS
  go_wp2_with fail
  obtain ⟨O6, hA6, hO6, hw6, hne6, hb6, hk6⟩ := ST2.out
  refine (begins9_any C O6 w6 g (crashL s1 k0) _ all1 m1 j _ hA6 hk6 (by have := HZ.out; omega) HBEG.out.1 (by rw [HRR.out]; exact HBEG.out.2.1) HBEG.out.2.2.1 HBEG.out.2.2.2 (by have := I1.out.2.2; omega) hw6).mono ?_
  rintro e w7 ⟨r, rfl, hr, hb7⟩
  rw [HRR.out] at hr
  obtain ⟨ra, rc, hrv⟩ : ∃ ra rc, r = .slice ra R.length rc := by obtain ⟨a, c, h, _⟩ := hr; exact ⟨a, c, h⟩
  subst hrv
  have HA7 := Lib.hid (C.low hA6 hb7)
  have HL6 := Lib.hid (C.lt hA6)
  have HR7 := Lib.hid (hr.sub (A' := fun b => ¬ O6 b) fun b h _ hO => by have := HL6.out b hO; omega)
  have HO6 := Lib.hid (And.intro hO6 hk6)
  have B7 := Lib.hid (hb6.trans (hb7.mono hb6.size))
  clear hA6 hO6 hw6 hne6 hb6 hk6 hr hb7 ST2
  go_wp2_with fail
  refine (C.cut O6 w7 g _ HA7.out HO6.out.2 (by have := HZ.out; omega)).mono ?_
  rintro e w8 ⟨rfl, hx⟩
  rw [HCUT.out] at hx ⊢
  obtain ⟨O8, hA8, hk8, ho8⟩ := hx
  have HA8 := Lib.hid hA8
  have HO8 := Lib.hid (show ∀ b, O8 b → w0.heap.size ≤ b from fun b h => (ho8 b h).elim (HO6.out.1 b) fun h => Nat.le_trans B7.out.size h)
  have HR8 := Lib.hid ((HR7.out.keep hk8).sub (A' := fun _ => True) fun _ _ _ => trivial)
  have B8 := Lib.hid (B7.out.trans (Keeps.low9 hk8 (fun b hl hO' => absurd (HO6.out.1 b hO') (by omega)) B7.out.size))
  clear hA8 hk8 ho8 HA7 HR7 HL6 HO6 B7
  simp only
  obtain ⟨⟨s2, all2, m2⟩, hR2⟩ : ∃ T, runS l' (S, R, 0) = T := ⟨_, rfl⟩
  have I2 := Lib.hid (show InvS s2 all2 (max m2 R.length) ∧ sizeL s2 ≤ 300000 ∧ all2.length ≤ 40 from by
    have a := (inv_run l' (S, R, 0) R.length (by show InvS S R (max 0 R.length); rw [Nat.max_eq_right (Nat.zero_le _)]; exact HINV.out) (Nat.le_refl _)).1
    have b := run_size l' (S, R, 0)
    have c := run_len l' (S, R, 0)
    rw [hR2] at a b c
    have h := HL.out.2
    have z := HS.out
    have z2 := HRL.out
    simp only at b c
    exact ⟨a, by omega, by omega⟩)
  have HR2 := Lib.hid hR2
  clear hR2
  go_wp2_with fail
  refine (run9_any C w0 w8 l' _ _ R O8 g S HVW'.out HM'.out HL.out.2 B8.out HR8.out (by have := HRL.out; omega) HA8.out HO8.out HSOK.out (by have := HS.out; omega)).mono ?_
  rintro e w9 ⟨x2, rfl, hst⟩
  rw [HR2.out] at hst ⊢
  have ST3 := Lib.hid hst
  obtain ⟨ya, yc, rfl⟩ := hst.shape
  clear hst HR8 HA8 HO8 B8
  simp only
  obtain ⟨d0, d1⟩ := HC.out w9 ST3.out.below
  go_wp2_with fail
  obtain ⟨O9, hA9, hO9, hw9, hne9, hb9, hk9⟩ := ST3.out
  have HOK2 := Lib.hid (show OkL (crashL s2 k1) from ok_do hk9 3 ⟨#[]⟩ (n := k1) HK1.out.2)
  have HZ2 := Lib.hid (show sizeL (crashL s2 k1) ≤ 400000 from by have h := do_size s2 3 ⟨#[]⟩ k1; have := I2.out.2.1; have h : sizeL (crashL s2 k1) ≤ sizeL s2 + 4004 := h; omega)
  have HNE := Lib.hid (And.intro hO9 hne9)
  refine (C.crash O9 w9 g s2 k1 hA9 hk9 (by have := I2.out.2.1; omega) HK1.out).mono ?_
  rintro e w10 ⟨rfl, hx⟩
  have ST4 := Lib.hid (show RnSt C w0 9 g (crashL s2 k1, all2, m2) (.slice ya all2.length yc) w10 from ST3.out.next HOK2.out ⟨O9, HNE.out.1, HNE.out.2, hx⟩)
  clear hA9 hO9 hw9 hne9 hb9 hk9 hx HNE ST3 d0 d1
  obtain ⟨j2, hj1, hj2, hgone, hrec, hcut, hinv⟩ := inv_crash I2.out.1 k1
  have HBEG2 := Lib.hid (And.intro hgone (And.intro hrec (And.intro hj1 hj2)))
  clear hgone hrec hcut hinv hj1 hj2
  have q1 : (0 : Int) ≤ (m2 : Int) := by omega
  have q2 : (0 : Int) ≤ (R.length : Int) := by omega
  go_wp2_with fail
  rw [show max (m2 : Int) (R.length : Int) = ((max m2 R.length : Nat) : Int) by omega]
  obtain ⟨O10, hA10, hO10, hw10, hne10, hb10, hk10⟩ := ST4.out
  refine (begins9_any C O10 w10 g (crashL s2 k1) _ all2 (max m2 R.length) j2 _ hA10 hk10 (by have := HZ2.out; omega) HBEG2.out.1 HBEG2.out.2.1 HBEG2.out.2.2.1 HBEG2.out.2.2.2 (by have := I2.out.2.2; omega) hw10).mono ?_
  rintro e w11 ⟨r2, rfl, _, hb11⟩
  have B11 := Lib.hid (hb10.trans (hb11.mono hb10.size))
  clear hA10 hO10 hw10 hne10 hb10 hk10 hb11 ST4
  go_wp2_with fail
  go_ret
  exact ⟨rfl, B0.out.trans (B11.out.mono B0.out.size)⟩
end Go.Proofs.Ytggpiajmelhblaa
end
