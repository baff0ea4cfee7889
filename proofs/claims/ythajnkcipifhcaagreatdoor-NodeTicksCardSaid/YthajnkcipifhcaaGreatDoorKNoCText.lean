/-
  The code's Text: what a message's tag is of, whatever the message is.
-/
import Derived.Test.YthajnkcipifhcaaGreatDoorKJDig
import Derived.Test.YthajnkcipifhcaaGreatDoorKJLawD
import Derived.Test.YthajnkcipifhcaaGreatDoorKWMsgLaw
import Derived.Test.YthajnkcipifhcaaGreatDoorKQuMath
import Derived.Test.YthajnkcipifhcaaGreatDoorKZRow
import Derived.Test.YthajnkcipifhcaaGreatDoorKPlanN
section
open Go Go.RowKit
namespace NO
open RR FF JJ CC MM WW BB
/-- a message's text -/
def textF (k v : Int) (h : ByteArray) (x : BlockD) (c : CertD) (r : Int × Int × ByteArray) (ix : Int) : ByteArray :=
  if k = 1 then ⟨#[80]⟩ ++ digI x else if k = 3 then ⟨#[78]⟩ ++ num v ++ num c.1.1 ++ c.1.2 else if k = 5 then ⟨#[65]⟩ ++ reqB r.1 r.2.1 r.2.2 ++ num ix ++ h else ⟨#[]⟩
end NO
namespace Go.Proofs.YthajnkcipifhcaaGreatDoor
open NO RR FF JJ CC MM WW BB
end Go.Proofs.YthajnkcipifhcaaGreatDoor
end
section
open Go Go.RowKit
namespace NO
open RR FF JJ CC MM WW BB
/-- a message whose text is looked at: of sizes that are looked at -/
def TextOk (x : BlockD) (c : CertD) (h : ByteArray) (r : Int × Int × ByteArray) : Prop := ((parI x).size ≤ 1000 ∧ SmallS (sigsI x) ∧ SmallR x.2) ∧ c.1.2.size ≤ 1000 ∧ h.size ≤ 1000 ∧ r.2.2.size ≤ 100000
end NO
namespace Go.Proofs.YthajnkcipifhcaaGreatDoor
open NO RR FF JJ CC MM WW BB
set_option maxRecDepth 100000 in
set_option maxHeartbeats 16000000 in
theorem text18_any (w : World) (f : Nat → Value) (k fr dst v : Int) (h : ByteArray) (x : BlockD) (c : CertD) (s : Int × List ByteArray) (r : Int × Int × ByteArray) (ix : Int) (tg : ByteArray) (s9 r10 s13 t15 : Value)
    (M : MsgAt w f k fr dst v h x c s r ix tg s9 r10 s13 t15) (hfew : TextOk x c h r) (hT : Tabs w) :
    Calls Tryz.prog 22 #[.agg (row 21 f)] w fun e w' => e = .returned (.string (textF k v h x c r ix)) ∧ Below w.heap.size w w' := by
  have HS := Lib.hid hfew
  have H9 := Lib.hid M.h9
  have H10 := Lib.hid M.h10
  obtain ⟨a9, n9, e9, _⟩ := M.h9
  obtain ⟨a10, n10, e10, _⟩ := M.h10
  have X0 := Lib.hid (show Blk (w.alloc (.cells (row 21 f) 43)) w.heap.size 21 f from Blk.new' rfl rfl)
  have B0 := Lib.hid ((Below.refl w.heap.size w).alloc (Nat.le_refl _) (.cells (row 21 f) 43))
  obtain ⟨y, hy⟩ : ∃ y, w.heap.size = y := ⟨_, rfl⟩
  go_enter Tryz.func22, Tryz.ntmps22
  go_upto_region 1 with fail
  rw [hy] at X0
  obtain ⟨w1, hw1⟩ : ∃ w1, w.alloc (.cells (row 21 f) 43) = w1 := ⟨_, rfl⟩
  rw [hw1] at X0 B0 ⊢
  have HCC := Lib.hid (fun (wx : World) (hx : Below w1.heap.size w1 wx) => X0.out.below hx X0.out.lt)
  have c0 := X0.out.get 0 (by omega)
  rw [M.y0] at c0
  clear hw1 hy
  by_cases k1 : k = 1
  · have t1 : (k == 1) = true := by rw [beq_iff_eq]; exact k1
    have c5 := X0.out.get 5 (by omega)
    have c6 := X0.out.get 6 (by omega)
    have c7 := X0.out.get 7 (by omega)
    have c8 := X0.out.get 8 (by omega)
    have c9 := X0.out.get 9 (by omega)
    have c10 := X0.out.get 10 (by omega)
    rw [M.y5] at c5
    rw [M.y6] at c6
    rw [M.y7] at c7
    rw [M.y8] at c8
    rw [M.y9, e9] at c9
    rw [M.y10, e10] at c10
    have HR := Lib.hid (show textF k v h x c r ix = ⟨#[80]⟩ ++ digI x by unfold textF; rw [if_pos k1])
    clear k1
    go_wp2_with fail
    refine (bdigest_any _ _ _ _ _ _ x.1.2.2 x.2 w1 (e9 ▸ H9.out.later B0.out) (e10 ▸ H10.out.later B0.out) HS.out.1.1 HS.out.1.2.1 HS.out.1.2.2 (tabs_on hT B0.out)).mono ?_
    rintro e w2 ⟨rfl, hb2⟩
    have h1 : ¬ 9223372036854775807 < (⟨#[80]⟩ : ByteArray).size + (digD x.1.1.1 x.1.1.2 x.1.2.1.1 x.1.2.1.2 x.2).size := by rw [digD_size, show (⟨#[80]⟩ : ByteArray).size = 1 from rfl]; omega
    go_wp2_with fail
    go_ret
    rw [HR.out]
    exact ⟨rfl, B0.out.trans (hb2.mono B0.out.size)⟩
  have t1 : (k == 1) = false := by rw [beq_eq_false_iff_ne]; exact k1
  by_cases k3 : k = 3
  · have t3 : (k == 3) = true := by rw [beq_iff_eq]; exact k3
    have HR := Lib.hid (show textF k v h x c r ix = ⟨#[78]⟩ ++ num v ++ num c.1.1 ++ c.1.2 by unfold textF; rw [if_neg k1, if_pos k3])
    have h1 : ¬ 9223372036854775807 < 1 + (num v).size := by rw [num_size]; omega
    have h2 : ¬ 9223372036854775807 < 1 + (num v).size + (num c.1.1).size := by rw [num_size, num_size]; omega
    have h3 : ¬ 9223372036854775807 < 1 + (num v).size + (num c.1.1).size + c.1.2.size := by rw [num_size, num_size]; have := HS.out.2.1; omega
    clear k1 k3
    go_upto_region 5 with fail
    refine plan_abs (fun wx => Below w1.heap.size w1 wx) [(true, 0), (true, 1), (true, 4), (true, 5), (true, 6), (true, 9), (true, 10), (true, 11), (false, 2), (true, 3), (false, 7), (true, 8), (true, 12), (true, 13)] (by kernel_rfl) (by kernel_rfl) (fun _ _ d _ _ h => by cases d <;> exact h) fun w2 hs2 => ⟨hs2.below _, ?_⟩
    have B2 := Lib.hid (hs2.below w1.heap.size)
    clear hs2
    iterate 8 (refine pl_run _ ?_ rfl rfl ?_ ?_; rotate_left; (focus (intro w' hS; have X := HCC.out w' hS; have e3 := X.get 3 (by omega); rw [M.y3] at e3; have e11 := X.get 11 (by omega); rw [M.y11] at e11; have e12 := X.get 12 (by omega); rw [M.y12] at e12; go_simp; exact rfl)); simp only [Act.put, List.setIfInBounds_toArray, List.set_cons_zero, List.set_cons_succ, List.getElem_toArray, List.getElem_cons_zero, List.getElem_cons_succ])
    refine pl_call1 (R := fun w' => Below w2.heap.size w2 w') _ rfl rfl (by go_simp) (number_any v w2) (fun w' hb => B2.out.trans (hb.mono B2.out.size)) fun w3 hb3 => ?_
    have B3 := Lib.hid (B2.out.trans (hb3.mono B2.out.size))
    clear hb3
    simp only [Act.put, List.setIfInBounds_toArray, List.set_cons_zero, List.set_cons_succ, List.getElem_toArray, List.getElem_cons_zero, List.getElem_cons_succ]
    iterate 1 (refine pl_run _ ?_ rfl rfl ?_ ?_; rotate_left; (focus (intro w' hS; have X := HCC.out w' hS; skip; go_simp; exact rfl)); simp only [Act.put, List.setIfInBounds_toArray, List.set_cons_zero, List.set_cons_succ, List.getElem_toArray, List.getElem_cons_zero, List.getElem_cons_succ])
    refine pl_call1 (R := fun w' => Below w3.heap.size w3 w') _ rfl rfl (by go_simp) (number_any c.1.1 w3) (fun w' hb => B3.out.trans (hb.mono B3.out.size)) fun w4 hb4 => ?_
    have B4 := Lib.hid (B3.out.trans (hb4.mono B3.out.size))
    clear hb4
    simp only [Act.put, List.setIfInBounds_toArray, List.set_cons_zero, List.set_cons_succ, List.getElem_toArray, List.getElem_cons_zero, List.getElem_cons_succ]
    iterate 3 (refine pl_run _ ?_ rfl rfl ?_ ?_; rotate_left; (focus (intro w' hS; have X := HCC.out w' hS; skip; go_simp; exact rfl)); simp only [Act.put, List.setIfInBounds_toArray, List.set_cons_zero, List.set_cons_succ, List.getElem_toArray, List.getElem_cons_zero, List.getElem_cons_succ])
    refine pl_end ?_
    go_wp2_with fail
    go_ret
    rw [HR.out]
    exact ⟨rfl, B0.out.trans (B4.out.mono B0.out.size)⟩
  have t3 : (k == 3) = false := by rw [beq_eq_false_iff_ne]; exact k3
  by_cases k5 : k = 5
  · have t5 : (k == 5) = true := by rw [beq_iff_eq]; exact k5
    have HR := Lib.hid (show textF k v h x c r ix = ⟨#[65]⟩ ++ reqB r.1 r.2.1 r.2.2 ++ num ix ++ h by unfold textF; rw [if_neg k1, if_neg k3, if_pos k5])
    have HRZ := Lib.hid (show (reqB r.1 r.2.1 r.2.2).size ≤ 200000 by unfold reqB; simp only [ByteArray.size_append, num_size, txt_size]; have := HS.out.2.2.2; omega)
    have h1 : ¬ 9223372036854775807 < 1 + (reqB r.1 r.2.1 r.2.2).size := by have := HRZ.out; omega
    have h2 : ¬ 9223372036854775807 < 1 + (reqB r.1 r.2.1 r.2.2).size + (num ix).size := by rw [num_size]; have := HRZ.out; omega
    have h3 : ¬ 9223372036854775807 < 1 + (reqB r.1 r.2.1 r.2.2).size + (num ix).size + h.size := by rw [num_size]; have := HRZ.out; have := HS.out.2.2.1; omega
    clear k1 k3 k5
    go_upto_region 7 with fail
    refine plan_abs (fun wx => Below w1.heap.size w1 wx) [(true, 0), (true, 1), (true, 4), (true, 5), (true, 8), (true, 9), (false, 2), (true, 3), (false, 6), (true, 7), (true, 10), (true, 11)] (by kernel_rfl) (by kernel_rfl) (fun _ _ d _ _ h => by cases d <;> exact h) fun w2 hs2 => ⟨hs2.below _, ?_⟩
    have B2 := Lib.hid (hs2.below w1.heap.size)
    clear hs2
    iterate 6 (refine pl_run _ ?_ rfl rfl ?_ ?_; rotate_left; (focus (intro w' hS; have X := HCC.out w' hS; have e16 := X.get 16 (by omega); rw [M.y16] at e16; have e17 := X.get 17 (by omega); rw [M.y17] at e17; have e18 := X.get 18 (by omega); rw [M.y18] at e18; have e19 := X.get 19 (by omega); rw [M.y19] at e19; have e4 := X.get 4 (by omega); rw [M.y4] at e4; go_simp; exact rfl)); simp only [Act.put, List.setIfInBounds_toArray, List.set_cons_zero, List.set_cons_succ, List.getElem_toArray, List.getElem_cons_zero, List.getElem_cons_succ])
    refine pl_call1 (R := fun w' => Below w2.heap.size w2 w') _ rfl rfl (by go_simp) (request_any r.1 r.2.1 r.2.2 (by have := HS.out.2.2.2; omega) w2) (fun w' hb => B2.out.trans (hb.mono B2.out.size)) fun w3 hb3 => ?_
    have B3 := Lib.hid (B2.out.trans (hb3.mono B2.out.size))
    clear hb3
    simp only [Act.put, List.setIfInBounds_toArray, List.set_cons_zero, List.set_cons_succ, List.getElem_toArray, List.getElem_cons_zero, List.getElem_cons_succ]
    iterate 1 (refine pl_run _ ?_ rfl rfl ?_ ?_; rotate_left; (focus (intro w' hS; have X := HCC.out w' hS; skip; go_simp; exact rfl)); simp only [Act.put, List.setIfInBounds_toArray, List.set_cons_zero, List.set_cons_succ, List.getElem_toArray, List.getElem_cons_zero, List.getElem_cons_succ])
    refine pl_call1 (R := fun w' => Below w3.heap.size w3 w') _ rfl rfl (by go_simp) (number_any ix w3) (fun w' hb => B3.out.trans (hb.mono B3.out.size)) fun w4 hb4 => ?_
    have B4 := Lib.hid (B3.out.trans (hb4.mono B3.out.size))
    clear hb4
    simp only [Act.put, List.setIfInBounds_toArray, List.set_cons_zero, List.set_cons_succ, List.getElem_toArray, List.getElem_cons_zero, List.getElem_cons_succ]
    iterate 3 (refine pl_run _ ?_ rfl rfl ?_ ?_; rotate_left; (focus (intro w' hS; have X := HCC.out w' hS; skip; go_simp; exact rfl)); simp only [Act.put, List.setIfInBounds_toArray, List.set_cons_zero, List.set_cons_succ, List.getElem_toArray, List.getElem_cons_zero, List.getElem_cons_succ])
    refine pl_end ?_
    go_wp2_with fail
    go_ret
    rw [HR.out]
    exact ⟨rfl, B0.out.trans (B4.out.mono B0.out.size)⟩
  have t5 : (k == 5) = false := by rw [beq_eq_false_iff_ne]; exact k5
  have HR := Lib.hid (show textF k v h x c r ix = ⟨#[]⟩ by unfold textF; rw [if_neg k1, if_neg k3, if_neg k5])
  clear k1 k3 k5
  go_wp2_with fail
  go_ret
  rw [HR.out]
  exact ⟨rfl, B0.out⟩
end Go.Proofs.YthajnkcipifhcaaGreatDoor
end
