/-
  The walk of the closure that cuts a message's part off.
-/
import Derived.Test.YtacnbpmoceocbaaKWCalls2
import Derived.BigQuiet
import Derived.Deep.QuietTactic
import Derived.Deep.CutRange
section
open Go Go.RowKit
namespace Go.Proofs.Ytacnbpmoceocbaa
open WW BB
theorem own_partB : Own Try.prog 97 := ⟨_, Try.func97, by kernel_rfl, by kernel_rfl⟩
set_option maxRecDepth 100000 in
set_option maxHeartbeats 4000000 in
theorem partB_walk {α : Type} (nz : α → Bool) (Sp : ByteArray → Option (ByteArray × α)) (R : RelT α) (Pre : (Nat → Value) → Prop) (t o n p q r kr kz : Nat) (er ez : Array Value) (f : Nat → Value) (b : ByteArray) (w : World) (hb : b.size ≤ 1000000) (ho : o + 5 < n) (ht : Blk w t n f) (hf : Pre f)
    (hrd : ∀ w, t < w.heap.size → CallsV Try.prog (.func (.func kr) #[] er) #[.pointer (some ⟨t, o, none⟩)] w (MakesR Try.prog t n w Pre Sp R))
    (hzr : ∀ d w lo hi g, Pre f → R d w lo hi f g → hi ≤ w.heap.size → CallsV Try.prog (.func (.func kz) #[] ez) #[.agg #[g o, g (o + 1), g (o + 2), g (o + 3), g (o + 4), g (o + 5)]] w fun e w' => e = .returned (.bool (!nz d)) ∧ Below w.heap.size w w')
    (hR : SoundR R)
    (hp : w.cell? ⟨p, 0, none⟩ = some (.func (.func kr) #[] er)) (hq : w.cell? ⟨q, 0, none⟩ = some (.pointer (some ⟨t, o, none⟩))) (hr : w.cell? ⟨r, 0, none⟩ = some (.func (.func kz) #[] ez)) (p1 : p ≠ t) (q1 : q ≠ t) (r1 : r ≠ t) :
    Calls Try.prog 97 #[.string b, .pointer (some ⟨p, 0, none⟩), .pointer (some ⟨q, 0, none⟩), .pointer (some ⟨r, 0, none⟩)] w (Ans (EffR t n w f (partR R) (partSp nz Sp b))) := by
  have HB := Lib.hid hb
  have HO := Lib.hid ho
  have HT := Lib.hid ht
  have HF := Lib.hid hf
  have HRD := Lib.hid hrd
  have HZR := Lib.hid hzr
  have HR := Lib.hid hR
  have PQ := Lib.hid (And.intro p1 (And.intro q1 r1))
  have HP := Lib.hid hp
  have HQ := Lib.hid hq
  have HRR := Lib.hid hr
  clear hb ho ht hf hrd hzr hR p1 q1 r1
  by_cases h0 : b.size = 0
  · have hX : partSp nz Sp b = none := by unfold partSp; rw [if_pos h0]
    rw [hX]
    obtain rfl := nil_size b h0
    clear hX h0 hp hq hr
    go_enter Try.func97, Try.ntmps97
    go_wp2_with fail
    go_ret2
    exact ⟨false, _, rfl, rfl, f, Keep.refl _ _, HT.out⟩
  have n0 : 0 < b.size := by omega
  have g0 : (0 : Int) < (b.size : Int) := by omega
  have g1 : (1 : Int) ≤ (b.size : Int) := by omega
  have hm : b.data.toList.getD 0 0 = b[0] := by
    rw [List.getD_eq_getElem?_getD, List.getElem?_eq_getElem (by rw [ba_list]; exact n0)]; rfl
  have e0 : b.toList.isEmpty = false := by
    rw [ByteArray.toList_eq]
    rcases hl : b.data.toList with _ | ⟨c, l⟩
    · exact absurd (show b.size = 0 by show b.data.size = 0; rw [← Array.length_toList, hl]; rfl) h0
    · rfl
  obtain ⟨c, hc⟩ : ∃ c, b[0] = c := ⟨_, rfl⟩
  rw [hc] at hm
  have HM := Lib.hid hm
  have HC := Lib.hid hc
  have H0 := Lib.hid h0
  clear hm hc h0
  by_cases c0 : c = 0
  · have hX : partSp nz Sp b = some (b.extract 1 b.size, none) := by unfold partSp; rw [if_neg H0.out, if_pos (by rw [HM.out, c0])]
    rw [hX]
    have t0 : ((b[0].toNat : Int) == 0) = true := by rw [HC.out, c0]; rfl
    clear c0 hX hp hq hr
    go_enter Try.func97, Try.ntmps97
    go_wp2_with fail
    go_ret2
    exact ⟨true, _, rfl, rfl, rfl, f, Keep.refl _ _, HT.out, rfl⟩
  have t0 : ((b[0].toNat : Int) == 0) = false := by
    rw [beq_eq_false_iff_ne, HC.out]
    intro h
    exact c0 (UInt8.toNat_inj.1 (by simpa using h))
  by_cases c1 : c = 1
  rotate_left
  · have t1 : ((b[0].toNat : Int) == 1) = false := by
      rw [beq_eq_false_iff_ne, HC.out]
      intro h
      exact c1 (UInt8.toNat_inj.1 (by have : c.toNat = 1 := by omega
                                      rw [this]; rfl))
    have hX : partSp nz Sp b = none := by unfold partSp; rw [if_neg H0.out, if_neg (by rw [HM.out]; exact c0), if_neg (by rw [HM.out]; exact c1)]
    rw [hX]
    clear c0 c1 hX hp hq hr
    go_enter Try.func97, Try.ntmps97
    go_wp2_with fail
    go_ret2
    exact ⟨false, _, rfl, rfl, f, Keep.refl _ _, HT.out⟩
  have t1 : ((b[0].toNat : Int) == 1) = true := by rw [HC.out, c1]; rfl
  have hX : partSp nz Sp b = mapSp some (filtSp Sp nz) (b.extract 1 b.size) := by unfold partSp; rw [if_neg H0.out, if_neg (by rw [HM.out]; exact c0), if_pos (by rw [HM.out]; exact c1)]
  rw [hX]
  obtain ⟨b1, hb1⟩ : ∃ b1, b.extract 1 b.size = b1 := ⟨_, rfl⟩
  have HB1 := Lib.hid (show b1.size ≤ 1000000 by rw [← hb1]; have := HB.out; simp; omega)
  have HBE := Lib.hid hb1
  rw [hb1]
  obtain ⟨X, hXX⟩ : ∃ X, mapSp some (filtSp Sp nz) b1 = X := ⟨_, rfl⟩
  rw [hXX]
  have HX := Lib.hid hXX
  clear c0 c1 hX hb1 hXX
  go_enter Try.func97, Try.ntmps97
  go_upto_region 7 with fail
  refine two_callv (a1 := ?a1) [0, 1, 3, 4] [6, 7, 8, 9, 10] 2 5 _ _ 22 25 (.tmp 20) (.tmp 22) _ _ _ _ (fun w' => w'.cell? ⟨p, 0, none⟩ = some (.func (.func kr) #[] er) ∧ w'.cell? ⟨q, 0, none⟩ = some (.pointer (some ⟨t, o, none⟩)) ∧ w'.cell? ⟨r, 0, none⟩ = some (.func (.func kz) #[] ez)) (.func (.func kr) #[] er) #[.pointer (some ⟨t, o, none⟩)] #[.string b1] _ (fun _ w1 e w' => Ans (EffR t n w1 f R (Sp b1)) e w') (by kernel_rfl) (by kernel_rfl) (fun _ _ d _ _ h => by cases d <;> exact h) rfl rfl ⟨rfl, rfl⟩ rfl rfl rfl rfl ⟨hp, hq, hr⟩ ?hread ?hx1 ?ha1 (HRD.out _ HT.out.lt) (fun _ _ ⟨_, _, h, _⟩ => ⟨_, h⟩) ?h2
  case hread =>
    simp only [pick, List.filterMap, List.getElem?_toArray, List.getElem?_cons_zero, List.getElem?_cons_succ]
    iterate 4 (refine heldg_run ?_ rfl ?_ ?_; rotate_left; (focus (intro w' hS; obtain ⟨s0, s1, s2⟩ := hS; go_simp; exact rfl)); simp only [Act.put, List.setIfInBounds_toArray, List.set_cons_zero, List.set_cons_succ])
    exact rfl
  case hx1 => rfl
  case ha1 => simp [Act.eval]
  case h2 =>
  rintro u w1 ⟨k2, env2, hu, hb2, hcv⟩
  injection hu with hu
  subst hu
  have s1 := And.intro (keep_cell HP.out (((Below.refl w.heap.size w).drew).trans hb2)) (And.intro (keep_cell HQ.out (((Below.refl w.heap.size w).drew).trans hb2)) (keep_cell HRR.out (((Below.refl w.heap.size w).drew).trans hb2)))
  refine ⟨s1, ⟨rfl, ?ha2⟩, hcv f b1 w1 HB1.out (Keep.refl _ _) (HT.out.below (((Below.refl w.heap.size w).drew).trans hb2) HT.out.lt) HF.out, Ans.ret, ?_⟩
  case ha2 => simp [Act.eval, Act.put, HBE.out]
  rintro u2 w2 ⟨ok, rr, hu2, he⟩
  injection hu2 with hu2
  subst hu2
  have B1 := Lib.hid (((Below.refl w.heap.size w).drew).trans hb2)
  unfold EffR at he
  rcases hsp : Sp b1 with _ | ⟨r', d⟩
  · rw [hsp] at he
    obtain ⟨rfl, f', k2', d2⟩ := he
    have hX : X = none := by rw [← HX.out, map_none (filt_none hsp)]
    have HXN := Lib.hid hX
    have s2 := And.intro (keep_cell2 s1.1 PQ.out.1 k2') (And.intro (keep_cell2 s1.2.1 PQ.out.2.1 k2') (keep_cell2 s1.2.2 PQ.out.2.2 k2'))
    refine ⟨s2, ?_⟩
    have K2 := Lib.hid ((keep_of_below B1.out (Nat.le_refl _) t).trans k2')
    have D2 := Lib.hid d2
    clear hX hsp k2' d2 hcv s1 hb2 hp hq hr
    simp only [pick, List.filterMap, List.getElem?_toArray, List.getElem?_cons_zero, List.getElem?_cons_succ, Act.put, List.setIfInBounds_toArray, List.set_cons_zero, List.set_cons_succ]
    iterate 5 (refine heldg_run ?_ rfl ?_ ?_; rotate_left; (focus (intro w' hS; obtain ⟨s0, s1, s2⟩ := hS; go_simp; exact rfl)); simp only [Act.put, List.setIfInBounds_toArray, List.set_cons_zero, List.set_cons_succ])
    refine heldg_nil ?_
    clear s2
    go_wp2_with fail
    go_quiet (fail)
    go_wp2_with fail
    go_ret2
    refine ⟨false, _, rfl, ?_⟩
    rw [HXN.out]
    exact ⟨rfl, f', K2.out.trans (keep_of_below (below_drewN (Below.refl w2.heap.size w2) _) (Nat.le_refl _) t), D2.out.below (below_drewN (Below.refl w2.heap.size w2) _) D2.out.lt⟩
  · rw [hsp] at he
    obtain ⟨rfl, rfl, g, k2', d2, hR⟩ := he
    have s2 := And.intro (keep_cell2 s1.1 PQ.out.1 k2') (And.intro (keep_cell2 s1.2.1 PQ.out.2.1 k2') (keep_cell2 s1.2.2 PQ.out.2.2 k2'))
    refine ⟨s2, ?_⟩
    have K2 := Lib.hid ((keep_of_below B1.out (Nat.le_refl _) t).trans k2')
    have D2 := Lib.hid d2
    have HRR2 := Lib.hid hR
    have HSP := Lib.hid hsp
    have S2 := Lib.hid s2
    have W1 := Lib.hid B1.out.size
    clear hsp k2' d2 hcv s1 hb2 hp hq hr hR
    simp only [pick, List.filterMap, List.getElem?_toArray, List.getElem?_cons_zero, List.getElem?_cons_succ, Act.put, List.setIfInBounds_toArray, List.set_cons_zero, List.set_cons_succ]
    iterate 5 (refine heldg_run ?_ rfl ?_ ?_; rotate_left; (focus (intro w' hS; obtain ⟨s0, s1, s2⟩ := hS; go_simp; exact rfl)); simp only [Act.put, List.setIfInBounds_toArray, List.set_cons_zero, List.set_cons_succ])
    refine heldg_nil ?_
    clear s2
    go_upto_region 8 with fail
    have x0 : w2.cell? ⟨t, o, none⟩ = some (g o) := D2.out.get o (by have := HO.out; omega)
    have x1 : w2.cell? ⟨t, o + 1, none⟩ = some (g (o + 1)) := D2.out.get (o + 1) (by have := HO.out; omega)
    have x2 : w2.cell? ⟨t, o + 2, none⟩ = some (g (o + 2)) := D2.out.get (o + 2) (by have := HO.out; omega)
    have x3 : w2.cell? ⟨t, o + 3, none⟩ = some (g (o + 3)) := D2.out.get (o + 3) (by have := HO.out; omega)
    have x4 : w2.cell? ⟨t, o + 4, none⟩ = some (g (o + 4)) := D2.out.get (o + 4) (by have := HO.out; omega)
    have x5 : w2.cell? ⟨t, o + 5, none⟩ = some (g (o + 5)) := D2.out.get (o + 5) (by have := HO.out; omega)
    refine one_callv (a1 := ?a8) [0, 1, 2, 3, 4, 5, 6] [8, 9, 10, 11] 7 _ 35 (.tmp 31) _ _ (.func (.func kz) #[] ez) #[.agg #[g o, g (o + 1), g (o + 2), g (o + 3), g (o + 4), g (o + 5)]] _ (fun w' => w'.cell? ⟨p, 0, none⟩ = some (.func (.func kr) #[] er) ∧ w'.cell? ⟨q, 0, none⟩ = some (.pointer (some ⟨t, o, none⟩)) ∧ w'.cell? ⟨r, 0, none⟩ = some (.func (.func kz) #[] ez) ∧ w'.cell? ⟨t, o, none⟩ = some (g o) ∧ w'.cell? ⟨t, o + 1, none⟩ = some (g (o + 1)) ∧ w'.cell? ⟨t, o + 2, none⟩ = some (g (o + 2)) ∧ w'.cell? ⟨t, o + 3, none⟩ = some (g (o + 3)) ∧ w'.cell? ⟨t, o + 4, none⟩ = some (g (o + 4)) ∧ w'.cell? ⟨t, o + 5, none⟩ = some (g (o + 5))) (by kernel_rfl) (by kernel_rfl) (fun _ _ d _ _ h => by cases d <;> exact h) rfl rfl rfl ⟨S2.out.1, S2.out.2.1, S2.out.2.2, x0, x1, x2, x3, x4, x5⟩ ?hread8 ?hgc8 ?hx8 ?has8 ((HZR.out d w2.drew w1.heap.size w2.heap.size g HF.out (HR.out.keep HRR2.out fun _ _ _ => rfl) (Nat.le_refl _))) (fun _ _ ⟨h, _⟩ => ⟨_, h⟩) ?ht8
    case hread8 =>
      simp only [pick, List.filterMap, List.getElem?_toArray, List.getElem?_cons_zero, List.getElem?_cons_succ]
      iterate 7 (refine heldg_run ?_ rfl ?_ ?_; rotate_left; (focus (intro w' hS; obtain ⟨s0, s1, s2, y0, y1, y2, y3, y4, y5⟩ := hS; go_simp; exact rfl)); simp only [Act.put, List.setIfInBounds_toArray, List.set_cons_zero, List.set_cons_succ])
      exact rfl
    case hgc8 => rfl
    case hx8 => rfl
    case has8 => simp [Act.eval]
    case ht8 =>
    rintro u w8 ⟨hu, hb8⟩
    injection hu with hu
    subst hu
    have B8 := Lib.hid ((Below.refl w2.heap.size w2).drew.trans hb8)
    refine ⟨⟨cell_b S2.out.1 B8.out, cell_b S2.out.2.1 B8.out, cell_b S2.out.2.2 B8.out, cell_b x0 B8.out, cell_b x1 B8.out, cell_b x2 B8.out, cell_b x3 B8.out, cell_b x4 B8.out, cell_b x5 B8.out⟩, ?_⟩
    have K8 := Lib.hid (K2.out.trans (keep_of_below B8.out (Nat.le_refl _) t))
    have D8 := Lib.hid (D2.out.below B8.out D2.out.lt)
    have HR8 := Lib.hid (HR.out.wide (HR.out.keep HRR2.out fun c h1 h2 => B8.out.block c h2) W1.out B8.out.size)
    clear hb8 x0 x1 x2 x3 x4 x5
    rcases hn : nz d with _ | _
    · have hX : X = none := by rw [← HX.out, map_none]; rw [filt_some HSP.out, hn, if_neg (by simp)]
      have HXN := Lib.hid hX
      clear hX hn
      simp only [pick, List.filterMap, List.getElem?_toArray, List.getElem?_cons_zero, List.getElem?_cons_succ, Act.put, List.setIfInBounds_toArray, List.set_cons_zero, List.set_cons_succ]
      iterate 4 (refine heldg_run ?_ rfl ?_ ?_; rotate_left; (focus (intro w' hS; obtain ⟨s0, s1, s2, y0, y1, y2, y3, y4, y5⟩ := hS; go_simp; exact rfl)); simp only [Act.put, List.setIfInBounds_toArray, List.set_cons_zero, List.set_cons_succ])
      refine heldg_nil ?_
      go_wp2_with fail
      go_ret2
      refine ⟨false, _, rfl, ?_⟩
      rw [HXN.out]
      exact ⟨rfl, g, K8.out, D8.out⟩
    · have hX : X = some (rr, some d) := by rw [← HX.out]; exact map_some (by rw [filt_some HSP.out, hn, if_pos rfl])
      have HXN := Lib.hid hX
      clear hX hn
      simp only [pick, List.filterMap, List.getElem?_toArray, List.getElem?_cons_zero, List.getElem?_cons_succ, Act.put, List.setIfInBounds_toArray, List.set_cons_zero, List.set_cons_succ]
      iterate 4 (refine heldg_run ?_ rfl ?_ ?_; rotate_left; (focus (intro w' hS; obtain ⟨s0, s1, s2, y0, y1, y2, y3, y4, y5⟩ := hS; go_simp; exact rfl)); simp only [Act.put, List.setIfInBounds_toArray, List.set_cons_zero, List.set_cons_succ])
      refine heldg_nil ?_
      go_wp2_with fail
      go_ret2
      refine ⟨true, _, rfl, ?_⟩
      rw [HXN.out]
      exact ⟨rfl, rfl, g, K8.out, D8.out, HR8.out⟩
set_option maxRecDepth 100000 in
theorem mk_partB {α : Type} (nz : α → Bool) (Sp : ByteArray → Option (ByteArray × α)) (R : RelT α) (Pre : (Nat → Value) → Prop) (t o n kr kz : Nat) (er ez : Array Value) (w : World) (ho : o + 5 < n) (ht : t < w.heap.size)
    (hrd : ∀ w, t < w.heap.size → CallsV Try.prog (.func (.func kr) #[] er) #[.pointer (some ⟨t, o, none⟩)] w (MakesR Try.prog t n w Pre Sp R))
    (hzr : ∀ f d w lo hi g, Pre f → R d w lo hi f g → hi ≤ w.heap.size → CallsV Try.prog (.func (.func kz) #[] ez) #[.agg #[g o, g (o + 1), g (o + 2), g (o + 3), g (o + 4), g (o + 5)]] w fun e w' => e = .returned (.bool (!nz d)) ∧ Below w.heap.size w w')
    (hR : SoundR R) :
    Calls Try.prog 80 #[.pointer (some ⟨t, o, none⟩), .func (.func kz) #[] ez, .func (.func kr) #[] er] w (MakesR Try.prog t n w Pre (partSp nz Sp) (partR R)) := by
  have HO := Lib.hid ho
  have HT := Lib.hid ht
  have HRD := Lib.hid hrd
  have HZR := Lib.hid hzr
  have HR := Lib.hid hR
  clear ho ht hrd hzr hR
  go_enter Try.func80, Try.ntmps80
  go_wp2_with fail
  go_ret
  have b1 := (Below.refl w.heap.size w).alloc (Nat.le_refl _) (.cells #[.pointer (some ⟨t, o, none⟩)] 105)
  have b2 := b1.alloc b1.size (.cells #[.func (.func kz) #[] ez] 32)
  have b3 := b2.alloc b2.size (.cells #[.func (.func kr) #[] er] 69)
  have := HT.out
  refine ⟨_, _, rfl, b3, fun f b wx hb hk hx hp => ⟨_, _, rfl, own_partB, ?_⟩⟩
  refine partB_walk nz Sp R Pre t o n (w.heap.size + 2) w.heap.size (w.heap.size + 1) kr kz er ez f b wx hb HO.out hx hp HRD.out (HZR.out f) HR.out ?_ ?_ ?_ (by omega) (by omega) (by omega)
  · exact keep_cell2 (cell_at _ _ _ _ (by simp)) (by omega) hk
  · exact keep_cell2 (cell_old (cell_old (cell_at _ _ _ _ rfl))) (by omega) hk
  · exact keep_cell2 (cell_old (cell_at _ _ _ _ (by simp))) (by omega) hk
end Go.Proofs.Ytacnbpmoceocbaa
end
section
open Go Go.RowKit
namespace Go.Proofs.Ytacnbpmoceocbaa
open WW BB
theorem own_partC : Own Try.prog 98 := ⟨_, Try.func98, by kernel_rfl, by kernel_rfl⟩
set_option maxRecDepth 100000 in
set_option maxHeartbeats 4000000 in
theorem partC_walk {α : Type} (nz : α → Bool) (Sp : ByteArray → Option (ByteArray × α)) (R : RelT α) (Pre : (Nat → Value) → Prop) (t o n p q r kr kz : Nat) (er ez : Array Value) (f : Nat → Value) (b : ByteArray) (w : World) (hb : b.size ≤ 1000000) (ho : o + 2 < n) (ht : Blk w t n f) (hf : Pre f)
    (hrd : ∀ w, t < w.heap.size → CallsV Try.prog (.func (.func kr) #[] er) #[.pointer (some ⟨t, o, none⟩)] w (MakesR Try.prog t n w Pre Sp R))
    (hzr : ∀ d w lo hi g, Pre f → R d w lo hi f g → hi ≤ w.heap.size → CallsV Try.prog (.func (.func kz) #[] ez) #[.agg #[g o, g (o + 1), g (o + 2)]] w fun e w' => e = .returned (.bool (!nz d)) ∧ Below w.heap.size w w')
    (hR : SoundR R)
    (hp : w.cell? ⟨p, 0, none⟩ = some (.func (.func kr) #[] er)) (hq : w.cell? ⟨q, 0, none⟩ = some (.pointer (some ⟨t, o, none⟩))) (hr : w.cell? ⟨r, 0, none⟩ = some (.func (.func kz) #[] ez)) (p1 : p ≠ t) (q1 : q ≠ t) (r1 : r ≠ t) :
    Calls Try.prog 98 #[.string b, .pointer (some ⟨p, 0, none⟩), .pointer (some ⟨q, 0, none⟩), .pointer (some ⟨r, 0, none⟩)] w (Ans (EffR t n w f (partR R) (partSp nz Sp b))) := by
  have HB := Lib.hid hb
  have HO := Lib.hid ho
  have HT := Lib.hid ht
  have HF := Lib.hid hf
  have HRD := Lib.hid hrd
  have HZR := Lib.hid hzr
  have HR := Lib.hid hR
  have PQ := Lib.hid (And.intro p1 (And.intro q1 r1))
  have HP := Lib.hid hp
  have HQ := Lib.hid hq
  have HRR := Lib.hid hr
  clear hb ho ht hf hrd hzr hR p1 q1 r1
  by_cases h0 : b.size = 0
  · have hX : partSp nz Sp b = none := by unfold partSp; rw [if_pos h0]
    rw [hX]
    obtain rfl := nil_size b h0
    clear hX h0 hp hq hr
    go_enter Try.func98, Try.ntmps98
    go_wp2_with fail
    go_ret2
    exact ⟨false, _, rfl, rfl, f, Keep.refl _ _, HT.out⟩
  have n0 : 0 < b.size := by omega
  have g0 : (0 : Int) < (b.size : Int) := by omega
  have g1 : (1 : Int) ≤ (b.size : Int) := by omega
  have hm : b.data.toList.getD 0 0 = b[0] := by
    rw [List.getD_eq_getElem?_getD, List.getElem?_eq_getElem (by rw [ba_list]; exact n0)]; rfl
  have e0 : b.toList.isEmpty = false := by
    rw [ByteArray.toList_eq]
    rcases hl : b.data.toList with _ | ⟨c, l⟩
    · exact absurd (show b.size = 0 by show b.data.size = 0; rw [← Array.length_toList, hl]; rfl) h0
    · rfl
  obtain ⟨c, hc⟩ : ∃ c, b[0] = c := ⟨_, rfl⟩
  rw [hc] at hm
  have HM := Lib.hid hm
  have HC := Lib.hid hc
  have H0 := Lib.hid h0
  clear hm hc h0
  by_cases c0 : c = 0
  · have hX : partSp nz Sp b = some (b.extract 1 b.size, none) := by unfold partSp; rw [if_neg H0.out, if_pos (by rw [HM.out, c0])]
    rw [hX]
    have t0 : ((b[0].toNat : Int) == 0) = true := by rw [HC.out, c0]; rfl
    clear c0 hX hp hq hr
    go_enter Try.func98, Try.ntmps98
    go_wp2_with fail
    go_ret2
    exact ⟨true, _, rfl, rfl, rfl, f, Keep.refl _ _, HT.out, rfl⟩
  have t0 : ((b[0].toNat : Int) == 0) = false := by
    rw [beq_eq_false_iff_ne, HC.out]
    intro h
    exact c0 (UInt8.toNat_inj.1 (by simpa using h))
  by_cases c1 : c = 1
  rotate_left
  · have t1 : ((b[0].toNat : Int) == 1) = false := by
      rw [beq_eq_false_iff_ne, HC.out]
      intro h
      exact c1 (UInt8.toNat_inj.1 (by have : c.toNat = 1 := by omega
                                      rw [this]; rfl))
    have hX : partSp nz Sp b = none := by unfold partSp; rw [if_neg H0.out, if_neg (by rw [HM.out]; exact c0), if_neg (by rw [HM.out]; exact c1)]
    rw [hX]
    clear c0 c1 hX hp hq hr
    go_enter Try.func98, Try.ntmps98
    go_wp2_with fail
    go_ret2
    exact ⟨false, _, rfl, rfl, f, Keep.refl _ _, HT.out⟩
  have t1 : ((b[0].toNat : Int) == 1) = true := by rw [HC.out, c1]; rfl
  have hX : partSp nz Sp b = mapSp some (filtSp Sp nz) (b.extract 1 b.size) := by unfold partSp; rw [if_neg H0.out, if_neg (by rw [HM.out]; exact c0), if_pos (by rw [HM.out]; exact c1)]
  rw [hX]
  obtain ⟨b1, hb1⟩ : ∃ b1, b.extract 1 b.size = b1 := ⟨_, rfl⟩
  have HB1 := Lib.hid (show b1.size ≤ 1000000 by rw [← hb1]; have := HB.out; simp; omega)
  have HBE := Lib.hid hb1
  rw [hb1]
  obtain ⟨X, hXX⟩ : ∃ X, mapSp some (filtSp Sp nz) b1 = X := ⟨_, rfl⟩
  rw [hXX]
  have HX := Lib.hid hXX
  clear c0 c1 hX hb1 hXX
  go_enter Try.func98, Try.ntmps98
  go_upto_region 7 with fail
  refine two_callv (a1 := ?a1) [0, 1, 3, 4] [6, 7, 8, 9, 10] 2 5 _ _ 22 25 (.tmp 20) (.tmp 22) _ _ _ _ (fun w' => w'.cell? ⟨p, 0, none⟩ = some (.func (.func kr) #[] er) ∧ w'.cell? ⟨q, 0, none⟩ = some (.pointer (some ⟨t, o, none⟩)) ∧ w'.cell? ⟨r, 0, none⟩ = some (.func (.func kz) #[] ez)) (.func (.func kr) #[] er) #[.pointer (some ⟨t, o, none⟩)] #[.string b1] _ (fun _ w1 e w' => Ans (EffR t n w1 f R (Sp b1)) e w') (by kernel_rfl) (by kernel_rfl) (fun _ _ d _ _ h => by cases d <;> exact h) rfl rfl ⟨rfl, rfl⟩ rfl rfl rfl rfl ⟨hp, hq, hr⟩ ?hread ?hx1 ?ha1 (HRD.out _ HT.out.lt) (fun _ _ ⟨_, _, h, _⟩ => ⟨_, h⟩) ?h2
  case hread =>
    simp only [pick, List.filterMap, List.getElem?_toArray, List.getElem?_cons_zero, List.getElem?_cons_succ]
    iterate 4 (refine heldg_run ?_ rfl ?_ ?_; rotate_left; (focus (intro w' hS; obtain ⟨s0, s1, s2⟩ := hS; go_simp; exact rfl)); simp only [Act.put, List.setIfInBounds_toArray, List.set_cons_zero, List.set_cons_succ])
    exact rfl
  case hx1 => rfl
  case ha1 => simp [Act.eval]
  case h2 =>
  rintro u w1 ⟨k2, env2, hu, hb2, hcv⟩
  injection hu with hu
  subst hu
  have s1 := And.intro (keep_cell HP.out (((Below.refl w.heap.size w).drew).trans hb2)) (And.intro (keep_cell HQ.out (((Below.refl w.heap.size w).drew).trans hb2)) (keep_cell HRR.out (((Below.refl w.heap.size w).drew).trans hb2)))
  refine ⟨s1, ⟨rfl, ?ha2⟩, hcv f b1 w1 HB1.out (Keep.refl _ _) (HT.out.below (((Below.refl w.heap.size w).drew).trans hb2) HT.out.lt) HF.out, Ans.ret, ?_⟩
  case ha2 => simp [Act.eval, Act.put, HBE.out]
  rintro u2 w2 ⟨ok, rr, hu2, he⟩
  injection hu2 with hu2
  subst hu2
  have B1 := Lib.hid (((Below.refl w.heap.size w).drew).trans hb2)
  unfold EffR at he
  rcases hsp : Sp b1 with _ | ⟨r', d⟩
  · rw [hsp] at he
    obtain ⟨rfl, f', k2', d2⟩ := he
    have hX : X = none := by rw [← HX.out, map_none (filt_none hsp)]
    have HXN := Lib.hid hX
    have s2 := And.intro (keep_cell2 s1.1 PQ.out.1 k2') (And.intro (keep_cell2 s1.2.1 PQ.out.2.1 k2') (keep_cell2 s1.2.2 PQ.out.2.2 k2'))
    refine ⟨s2, ?_⟩
    have K2 := Lib.hid ((keep_of_below B1.out (Nat.le_refl _) t).trans k2')
    have D2 := Lib.hid d2
    clear hX hsp k2' d2 hcv s1 hb2 hp hq hr
    simp only [pick, List.filterMap, List.getElem?_toArray, List.getElem?_cons_zero, List.getElem?_cons_succ, Act.put, List.setIfInBounds_toArray, List.set_cons_zero, List.set_cons_succ]
    iterate 5 (refine heldg_run ?_ rfl ?_ ?_; rotate_left; (focus (intro w' hS; obtain ⟨s0, s1, s2⟩ := hS; go_simp; exact rfl)); simp only [Act.put, List.setIfInBounds_toArray, List.set_cons_zero, List.set_cons_succ])
    refine heldg_nil ?_
    clear s2
    go_wp2_with fail
    go_quiet (fail)
    go_wp2_with fail
    go_ret2
    refine ⟨false, _, rfl, ?_⟩
    rw [HXN.out]
    exact ⟨rfl, f', K2.out.trans (keep_of_below (below_drewN (Below.refl w2.heap.size w2) _) (Nat.le_refl _) t), D2.out.below (below_drewN (Below.refl w2.heap.size w2) _) D2.out.lt⟩
  · rw [hsp] at he
    obtain ⟨rfl, rfl, g, k2', d2, hR⟩ := he
    have s2 := And.intro (keep_cell2 s1.1 PQ.out.1 k2') (And.intro (keep_cell2 s1.2.1 PQ.out.2.1 k2') (keep_cell2 s1.2.2 PQ.out.2.2 k2'))
    refine ⟨s2, ?_⟩
    have K2 := Lib.hid ((keep_of_below B1.out (Nat.le_refl _) t).trans k2')
    have D2 := Lib.hid d2
    have HRR2 := Lib.hid hR
    have HSP := Lib.hid hsp
    have S2 := Lib.hid s2
    have W1 := Lib.hid B1.out.size
    clear hsp k2' d2 hcv s1 hb2 hp hq hr hR
    simp only [pick, List.filterMap, List.getElem?_toArray, List.getElem?_cons_zero, List.getElem?_cons_succ, Act.put, List.setIfInBounds_toArray, List.set_cons_zero, List.set_cons_succ]
    iterate 5 (refine heldg_run ?_ rfl ?_ ?_; rotate_left; (focus (intro w' hS; obtain ⟨s0, s1, s2⟩ := hS; go_simp; exact rfl)); simp only [Act.put, List.setIfInBounds_toArray, List.set_cons_zero, List.set_cons_succ])
    refine heldg_nil ?_
    clear s2
    go_upto_region 8 with fail
    have x0 : w2.cell? ⟨t, o, none⟩ = some (g o) := D2.out.get o (by have := HO.out; omega)
    have x1 : w2.cell? ⟨t, o + 1, none⟩ = some (g (o + 1)) := D2.out.get (o + 1) (by have := HO.out; omega)
    have x2 : w2.cell? ⟨t, o + 2, none⟩ = some (g (o + 2)) := D2.out.get (o + 2) (by have := HO.out; omega)
    refine one_callv (a1 := ?a8) [0, 1, 2, 3, 4, 5, 6] [8, 9, 10, 11] 7 _ 35 (.tmp 31) _ _ (.func (.func kz) #[] ez) #[.agg #[g o, g (o + 1), g (o + 2)]] _ (fun w' => w'.cell? ⟨p, 0, none⟩ = some (.func (.func kr) #[] er) ∧ w'.cell? ⟨q, 0, none⟩ = some (.pointer (some ⟨t, o, none⟩)) ∧ w'.cell? ⟨r, 0, none⟩ = some (.func (.func kz) #[] ez) ∧ w'.cell? ⟨t, o, none⟩ = some (g o) ∧ w'.cell? ⟨t, o + 1, none⟩ = some (g (o + 1)) ∧ w'.cell? ⟨t, o + 2, none⟩ = some (g (o + 2))) (by kernel_rfl) (by kernel_rfl) (fun _ _ d _ _ h => by cases d <;> exact h) rfl rfl rfl ⟨S2.out.1, S2.out.2.1, S2.out.2.2, x0, x1, x2⟩ ?hread8 ?hgc8 ?hx8 ?has8 ((HZR.out d w2.drew w1.heap.size w2.heap.size g HF.out (HR.out.keep HRR2.out fun _ _ _ => rfl) (Nat.le_refl _))) (fun _ _ ⟨h, _⟩ => ⟨_, h⟩) ?ht8
    case hread8 =>
      simp only [pick, List.filterMap, List.getElem?_toArray, List.getElem?_cons_zero, List.getElem?_cons_succ]
      iterate 7 (refine heldg_run ?_ rfl ?_ ?_; rotate_left; (focus (intro w' hS; obtain ⟨s0, s1, s2, y0, y1, y2⟩ := hS; go_simp; exact rfl)); simp only [Act.put, List.setIfInBounds_toArray, List.set_cons_zero, List.set_cons_succ])
      exact rfl
    case hgc8 => rfl
    case hx8 => rfl
    case has8 => simp [Act.eval]
    case ht8 =>
    rintro u w8 ⟨hu, hb8⟩
    injection hu with hu
    subst hu
    have B8 := Lib.hid ((Below.refl w2.heap.size w2).drew.trans hb8)
    refine ⟨⟨cell_b S2.out.1 B8.out, cell_b S2.out.2.1 B8.out, cell_b S2.out.2.2 B8.out, cell_b x0 B8.out, cell_b x1 B8.out, cell_b x2 B8.out⟩, ?_⟩
    have K8 := Lib.hid (K2.out.trans (keep_of_below B8.out (Nat.le_refl _) t))
    have D8 := Lib.hid (D2.out.below B8.out D2.out.lt)
    have HR8 := Lib.hid (HR.out.wide (HR.out.keep HRR2.out fun c h1 h2 => B8.out.block c h2) W1.out B8.out.size)
    clear hb8 x0 x1 x2
    rcases hn : nz d with _ | _
    · have hX : X = none := by rw [← HX.out, map_none]; rw [filt_some HSP.out, hn, if_neg (by simp)]
      have HXN := Lib.hid hX
      clear hX hn
      simp only [pick, List.filterMap, List.getElem?_toArray, List.getElem?_cons_zero, List.getElem?_cons_succ, Act.put, List.setIfInBounds_toArray, List.set_cons_zero, List.set_cons_succ]
      iterate 4 (refine heldg_run ?_ rfl ?_ ?_; rotate_left; (focus (intro w' hS; obtain ⟨s0, s1, s2, y0, y1, y2⟩ := hS; go_simp; exact rfl)); simp only [Act.put, List.setIfInBounds_toArray, List.set_cons_zero, List.set_cons_succ])
      refine heldg_nil ?_
      go_wp2_with fail
      go_ret2
      refine ⟨false, _, rfl, ?_⟩
      rw [HXN.out]
      exact ⟨rfl, g, K8.out, D8.out⟩
    · have hX : X = some (rr, some d) := by rw [← HX.out]; exact map_some (by rw [filt_some HSP.out, hn, if_pos rfl])
      have HXN := Lib.hid hX
      clear hX hn
      simp only [pick, List.filterMap, List.getElem?_toArray, List.getElem?_cons_zero, List.getElem?_cons_succ, Act.put, List.setIfInBounds_toArray, List.set_cons_zero, List.set_cons_succ]
      iterate 4 (refine heldg_run ?_ rfl ?_ ?_; rotate_left; (focus (intro w' hS; obtain ⟨s0, s1, s2, y0, y1, y2⟩ := hS; go_simp; exact rfl)); simp only [Act.put, List.setIfInBounds_toArray, List.set_cons_zero, List.set_cons_succ])
      refine heldg_nil ?_
      go_wp2_with fail
      go_ret2
      refine ⟨true, _, rfl, ?_⟩
      rw [HXN.out]
      exact ⟨rfl, rfl, g, K8.out, D8.out, HR8.out⟩
set_option maxRecDepth 100000 in
theorem mk_partC {α : Type} (nz : α → Bool) (Sp : ByteArray → Option (ByteArray × α)) (R : RelT α) (Pre : (Nat → Value) → Prop) (t o n kr kz : Nat) (er ez : Array Value) (w : World) (ho : o + 2 < n) (ht : t < w.heap.size)
    (hrd : ∀ w, t < w.heap.size → CallsV Try.prog (.func (.func kr) #[] er) #[.pointer (some ⟨t, o, none⟩)] w (MakesR Try.prog t n w Pre Sp R))
    (hzr : ∀ f d w lo hi g, Pre f → R d w lo hi f g → hi ≤ w.heap.size → CallsV Try.prog (.func (.func kz) #[] ez) #[.agg #[g o, g (o + 1), g (o + 2)]] w fun e w' => e = .returned (.bool (!nz d)) ∧ Below w.heap.size w w')
    (hR : SoundR R) :
    Calls Try.prog 81 #[.pointer (some ⟨t, o, none⟩), .func (.func kz) #[] ez, .func (.func kr) #[] er] w (MakesR Try.prog t n w Pre (partSp nz Sp) (partR R)) := by
  have HO := Lib.hid ho
  have HT := Lib.hid ht
  have HRD := Lib.hid hrd
  have HZR := Lib.hid hzr
  have HR := Lib.hid hR
  clear ho ht hrd hzr hR
  go_enter Try.func81, Try.ntmps81
  go_wp2_with fail
  go_ret
  have b1 := (Below.refl w.heap.size w).alloc (Nat.le_refl _) (.cells #[.pointer (some ⟨t, o, none⟩)] 98)
  have b2 := b1.alloc b1.size (.cells #[.func (.func kz) #[] ez] 45)
  have b3 := b2.alloc b2.size (.cells #[.func (.func kr) #[] er] 67)
  have := HT.out
  refine ⟨_, _, rfl, b3, fun f b wx hb hk hx hp => ⟨_, _, rfl, own_partC, ?_⟩⟩
  refine partC_walk nz Sp R Pre t o n (w.heap.size + 2) w.heap.size (w.heap.size + 1) kr kz er ez f b wx hb HO.out hx hp HRD.out (HZR.out f) HR.out ?_ ?_ ?_ (by omega) (by omega) (by omega)
  · exact keep_cell2 (cell_at _ _ _ _ (by simp)) (by omega) hk
  · exact keep_cell2 (cell_old (cell_old (cell_at _ _ _ _ rfl))) (by omega) hk
  · exact keep_cell2 (cell_old (cell_at _ _ _ _ (by simp))) (by omega) hk
end Go.Proofs.Ytacnbpmoceocbaa
end
section
open Go Go.RowKit
namespace Go.Proofs.Ytacnbpmoceocbaa
open WW BB
theorem own_partS : Own Try.prog 99 := ⟨_, Try.func99, by kernel_rfl, by kernel_rfl⟩
set_option maxRecDepth 100000 in
set_option maxHeartbeats 4000000 in
theorem partS_walk {α : Type} (nz : α → Bool) (Sp : ByteArray → Option (ByteArray × α)) (R : RelT α) (Pre : (Nat → Value) → Prop) (t o n p q r kr kz : Nat) (er ez : Array Value) (f : Nat → Value) (b : ByteArray) (w : World) (hb : b.size ≤ 1000000) (ho : o + 1 < n) (ht : Blk w t n f) (hf : Pre f)
    (hrd : ∀ w, t < w.heap.size → CallsV Try.prog (.func (.func kr) #[] er) #[.pointer (some ⟨t, o, none⟩)] w (MakesR Try.prog t n w Pre Sp R))
    (hzr : ∀ d w lo hi g, Pre f → R d w lo hi f g → hi ≤ w.heap.size → CallsV Try.prog (.func (.func kz) #[] ez) #[.agg #[g o, g (o + 1)]] w fun e w' => e = .returned (.bool (!nz d)) ∧ Below w.heap.size w w')
    (hR : SoundR R)
    (hp : w.cell? ⟨p, 0, none⟩ = some (.func (.func kr) #[] er)) (hq : w.cell? ⟨q, 0, none⟩ = some (.pointer (some ⟨t, o, none⟩))) (hr : w.cell? ⟨r, 0, none⟩ = some (.func (.func kz) #[] ez)) (p1 : p ≠ t) (q1 : q ≠ t) (r1 : r ≠ t) :
    Calls Try.prog 99 #[.string b, .pointer (some ⟨p, 0, none⟩), .pointer (some ⟨q, 0, none⟩), .pointer (some ⟨r, 0, none⟩)] w (Ans (EffR t n w f (partR R) (partSp nz Sp b))) := by
  have HB := Lib.hid hb
  have HO := Lib.hid ho
  have HT := Lib.hid ht
  have HF := Lib.hid hf
  have HRD := Lib.hid hrd
  have HZR := Lib.hid hzr
  have HR := Lib.hid hR
  have PQ := Lib.hid (And.intro p1 (And.intro q1 r1))
  have HP := Lib.hid hp
  have HQ := Lib.hid hq
  have HRR := Lib.hid hr
  clear hb ho ht hf hrd hzr hR p1 q1 r1
  by_cases h0 : b.size = 0
  · have hX : partSp nz Sp b = none := by unfold partSp; rw [if_pos h0]
    rw [hX]
    obtain rfl := nil_size b h0
    clear hX h0 hp hq hr
    go_enter Try.func99, Try.ntmps99
    go_wp2_with fail
    go_ret2
    exact ⟨false, _, rfl, rfl, f, Keep.refl _ _, HT.out⟩
  have n0 : 0 < b.size := by omega
  have g0 : (0 : Int) < (b.size : Int) := by omega
  have g1 : (1 : Int) ≤ (b.size : Int) := by omega
  have hm : b.data.toList.getD 0 0 = b[0] := by
    rw [List.getD_eq_getElem?_getD, List.getElem?_eq_getElem (by rw [ba_list]; exact n0)]; rfl
  have e0 : b.toList.isEmpty = false := by
    rw [ByteArray.toList_eq]
    rcases hl : b.data.toList with _ | ⟨c, l⟩
    · exact absurd (show b.size = 0 by show b.data.size = 0; rw [← Array.length_toList, hl]; rfl) h0
    · rfl
  obtain ⟨c, hc⟩ : ∃ c, b[0] = c := ⟨_, rfl⟩
  rw [hc] at hm
  have HM := Lib.hid hm
  have HC := Lib.hid hc
  have H0 := Lib.hid h0
  clear hm hc h0
  by_cases c0 : c = 0
  · have hX : partSp nz Sp b = some (b.extract 1 b.size, none) := by unfold partSp; rw [if_neg H0.out, if_pos (by rw [HM.out, c0])]
    rw [hX]
    have t0 : ((b[0].toNat : Int) == 0) = true := by rw [HC.out, c0]; rfl
    clear c0 hX hp hq hr
    go_enter Try.func99, Try.ntmps99
    go_wp2_with fail
    go_ret2
    exact ⟨true, _, rfl, rfl, rfl, f, Keep.refl _ _, HT.out, rfl⟩
  have t0 : ((b[0].toNat : Int) == 0) = false := by
    rw [beq_eq_false_iff_ne, HC.out]
    intro h
    exact c0 (UInt8.toNat_inj.1 (by simpa using h))
  by_cases c1 : c = 1
  rotate_left
  · have t1 : ((b[0].toNat : Int) == 1) = false := by
      rw [beq_eq_false_iff_ne, HC.out]
      intro h
      exact c1 (UInt8.toNat_inj.1 (by have : c.toNat = 1 := by omega
                                      rw [this]; rfl))
    have hX : partSp nz Sp b = none := by unfold partSp; rw [if_neg H0.out, if_neg (by rw [HM.out]; exact c0), if_neg (by rw [HM.out]; exact c1)]
    rw [hX]
    clear c0 c1 hX hp hq hr
    go_enter Try.func99, Try.ntmps99
    go_wp2_with fail
    go_ret2
    exact ⟨false, _, rfl, rfl, f, Keep.refl _ _, HT.out⟩
  have t1 : ((b[0].toNat : Int) == 1) = true := by rw [HC.out, c1]; rfl
  have hX : partSp nz Sp b = mapSp some (filtSp Sp nz) (b.extract 1 b.size) := by unfold partSp; rw [if_neg H0.out, if_neg (by rw [HM.out]; exact c0), if_pos (by rw [HM.out]; exact c1)]
  rw [hX]
  obtain ⟨b1, hb1⟩ : ∃ b1, b.extract 1 b.size = b1 := ⟨_, rfl⟩
  have HB1 := Lib.hid (show b1.size ≤ 1000000 by rw [← hb1]; have := HB.out; simp; omega)
  have HBE := Lib.hid hb1
  rw [hb1]
  obtain ⟨X, hXX⟩ : ∃ X, mapSp some (filtSp Sp nz) b1 = X := ⟨_, rfl⟩
  rw [hXX]
  have HX := Lib.hid hXX
  clear c0 c1 hX hb1 hXX
  go_enter Try.func99, Try.ntmps99
  go_upto_region 7 with fail
  refine two_callv (a1 := ?a1) [0, 1, 3, 4] [6, 7, 8, 9, 10] 2 5 _ _ 22 25 (.tmp 20) (.tmp 22) _ _ _ _ (fun w' => w'.cell? ⟨p, 0, none⟩ = some (.func (.func kr) #[] er) ∧ w'.cell? ⟨q, 0, none⟩ = some (.pointer (some ⟨t, o, none⟩)) ∧ w'.cell? ⟨r, 0, none⟩ = some (.func (.func kz) #[] ez)) (.func (.func kr) #[] er) #[.pointer (some ⟨t, o, none⟩)] #[.string b1] _ (fun _ w1 e w' => Ans (EffR t n w1 f R (Sp b1)) e w') (by kernel_rfl) (by kernel_rfl) (fun _ _ d _ _ h => by cases d <;> exact h) rfl rfl ⟨rfl, rfl⟩ rfl rfl rfl rfl ⟨hp, hq, hr⟩ ?hread ?hx1 ?ha1 (HRD.out _ HT.out.lt) (fun _ _ ⟨_, _, h, _⟩ => ⟨_, h⟩) ?h2
  case hread =>
    simp only [pick, List.filterMap, List.getElem?_toArray, List.getElem?_cons_zero, List.getElem?_cons_succ]
    iterate 4 (refine heldg_run ?_ rfl ?_ ?_; rotate_left; (focus (intro w' hS; obtain ⟨s0, s1, s2⟩ := hS; go_simp; exact rfl)); simp only [Act.put, List.setIfInBounds_toArray, List.set_cons_zero, List.set_cons_succ])
    exact rfl
  case hx1 => rfl
  case ha1 => simp [Act.eval]
  case h2 =>
  rintro u w1 ⟨k2, env2, hu, hb2, hcv⟩
  injection hu with hu
  subst hu
  have s1 := And.intro (keep_cell HP.out (((Below.refl w.heap.size w).drew).trans hb2)) (And.intro (keep_cell HQ.out (((Below.refl w.heap.size w).drew).trans hb2)) (keep_cell HRR.out (((Below.refl w.heap.size w).drew).trans hb2)))
  refine ⟨s1, ⟨rfl, ?ha2⟩, hcv f b1 w1 HB1.out (Keep.refl _ _) (HT.out.below (((Below.refl w.heap.size w).drew).trans hb2) HT.out.lt) HF.out, Ans.ret, ?_⟩
  case ha2 => simp [Act.eval, Act.put, HBE.out]
  rintro u2 w2 ⟨ok, rr, hu2, he⟩
  injection hu2 with hu2
  subst hu2
  have B1 := Lib.hid (((Below.refl w.heap.size w).drew).trans hb2)
  unfold EffR at he
  rcases hsp : Sp b1 with _ | ⟨r', d⟩
  · rw [hsp] at he
    obtain ⟨rfl, f', k2', d2⟩ := he
    have hX : X = none := by rw [← HX.out, map_none (filt_none hsp)]
    have HXN := Lib.hid hX
    have s2 := And.intro (keep_cell2 s1.1 PQ.out.1 k2') (And.intro (keep_cell2 s1.2.1 PQ.out.2.1 k2') (keep_cell2 s1.2.2 PQ.out.2.2 k2'))
    refine ⟨s2, ?_⟩
    have K2 := Lib.hid ((keep_of_below B1.out (Nat.le_refl _) t).trans k2')
    have D2 := Lib.hid d2
    clear hX hsp k2' d2 hcv s1 hb2 hp hq hr
    simp only [pick, List.filterMap, List.getElem?_toArray, List.getElem?_cons_zero, List.getElem?_cons_succ, Act.put, List.setIfInBounds_toArray, List.set_cons_zero, List.set_cons_succ]
    iterate 5 (refine heldg_run ?_ rfl ?_ ?_; rotate_left; (focus (intro w' hS; obtain ⟨s0, s1, s2⟩ := hS; go_simp; exact rfl)); simp only [Act.put, List.setIfInBounds_toArray, List.set_cons_zero, List.set_cons_succ])
    refine heldg_nil ?_
    clear s2
    go_wp2_with fail
    go_quiet (fail)
    go_wp2_with fail
    go_ret2
    refine ⟨false, _, rfl, ?_⟩
    rw [HXN.out]
    exact ⟨rfl, f', K2.out.trans (keep_of_below (below_drewN (Below.refl w2.heap.size w2) _) (Nat.le_refl _) t), D2.out.below (below_drewN (Below.refl w2.heap.size w2) _) D2.out.lt⟩
  · rw [hsp] at he
    obtain ⟨rfl, rfl, g, k2', d2, hR⟩ := he
    have s2 := And.intro (keep_cell2 s1.1 PQ.out.1 k2') (And.intro (keep_cell2 s1.2.1 PQ.out.2.1 k2') (keep_cell2 s1.2.2 PQ.out.2.2 k2'))
    refine ⟨s2, ?_⟩
    have K2 := Lib.hid ((keep_of_below B1.out (Nat.le_refl _) t).trans k2')
    have D2 := Lib.hid d2
    have HRR2 := Lib.hid hR
    have HSP := Lib.hid hsp
    have S2 := Lib.hid s2
    have W1 := Lib.hid B1.out.size
    clear hsp k2' d2 hcv s1 hb2 hp hq hr hR
    simp only [pick, List.filterMap, List.getElem?_toArray, List.getElem?_cons_zero, List.getElem?_cons_succ, Act.put, List.setIfInBounds_toArray, List.set_cons_zero, List.set_cons_succ]
    iterate 5 (refine heldg_run ?_ rfl ?_ ?_; rotate_left; (focus (intro w' hS; obtain ⟨s0, s1, s2⟩ := hS; go_simp; exact rfl)); simp only [Act.put, List.setIfInBounds_toArray, List.set_cons_zero, List.set_cons_succ])
    refine heldg_nil ?_
    clear s2
    go_upto_region 8 with fail
    have x0 : w2.cell? ⟨t, o, none⟩ = some (g o) := D2.out.get o (by have := HO.out; omega)
    have x1 : w2.cell? ⟨t, o + 1, none⟩ = some (g (o + 1)) := D2.out.get (o + 1) (by have := HO.out; omega)
    refine one_callv (a1 := ?a8) [0, 1, 2, 3, 4, 5, 6] [8, 9, 10, 11] 7 _ 35 (.tmp 31) _ _ (.func (.func kz) #[] ez) #[.agg #[g o, g (o + 1)]] _ (fun w' => w'.cell? ⟨p, 0, none⟩ = some (.func (.func kr) #[] er) ∧ w'.cell? ⟨q, 0, none⟩ = some (.pointer (some ⟨t, o, none⟩)) ∧ w'.cell? ⟨r, 0, none⟩ = some (.func (.func kz) #[] ez) ∧ w'.cell? ⟨t, o, none⟩ = some (g o) ∧ w'.cell? ⟨t, o + 1, none⟩ = some (g (o + 1))) (by kernel_rfl) (by kernel_rfl) (fun _ _ d _ _ h => by cases d <;> exact h) rfl rfl rfl ⟨S2.out.1, S2.out.2.1, S2.out.2.2, x0, x1⟩ ?hread8 ?hgc8 ?hx8 ?has8 ((HZR.out d w2.drew w1.heap.size w2.heap.size g HF.out (HR.out.keep HRR2.out fun _ _ _ => rfl) (Nat.le_refl _))) (fun _ _ ⟨h, _⟩ => ⟨_, h⟩) ?ht8
    case hread8 =>
      simp only [pick, List.filterMap, List.getElem?_toArray, List.getElem?_cons_zero, List.getElem?_cons_succ]
      iterate 7 (refine heldg_run ?_ rfl ?_ ?_; rotate_left; (focus (intro w' hS; obtain ⟨s0, s1, s2, y0, y1⟩ := hS; go_simp; exact rfl)); simp only [Act.put, List.setIfInBounds_toArray, List.set_cons_zero, List.set_cons_succ])
      exact rfl
    case hgc8 => rfl
    case hx8 => rfl
    case has8 => simp [Act.eval]
    case ht8 =>
    rintro u w8 ⟨hu, hb8⟩
    injection hu with hu
    subst hu
    have B8 := Lib.hid ((Below.refl w2.heap.size w2).drew.trans hb8)
    refine ⟨⟨cell_b S2.out.1 B8.out, cell_b S2.out.2.1 B8.out, cell_b S2.out.2.2 B8.out, cell_b x0 B8.out, cell_b x1 B8.out⟩, ?_⟩
    have K8 := Lib.hid (K2.out.trans (keep_of_below B8.out (Nat.le_refl _) t))
    have D8 := Lib.hid (D2.out.below B8.out D2.out.lt)
    have HR8 := Lib.hid (HR.out.wide (HR.out.keep HRR2.out fun c h1 h2 => B8.out.block c h2) W1.out B8.out.size)
    clear hb8 x0 x1
    rcases hn : nz d with _ | _
    · have hX : X = none := by rw [← HX.out, map_none]; rw [filt_some HSP.out, hn, if_neg (by simp)]
      have HXN := Lib.hid hX
      clear hX hn
      simp only [pick, List.filterMap, List.getElem?_toArray, List.getElem?_cons_zero, List.getElem?_cons_succ, Act.put, List.setIfInBounds_toArray, List.set_cons_zero, List.set_cons_succ]
      iterate 4 (refine heldg_run ?_ rfl ?_ ?_; rotate_left; (focus (intro w' hS; obtain ⟨s0, s1, s2, y0, y1⟩ := hS; go_simp; exact rfl)); simp only [Act.put, List.setIfInBounds_toArray, List.set_cons_zero, List.set_cons_succ])
      refine heldg_nil ?_
      go_wp2_with fail
      go_ret2
      refine ⟨false, _, rfl, ?_⟩
      rw [HXN.out]
      exact ⟨rfl, g, K8.out, D8.out⟩
    · have hX : X = some (rr, some d) := by rw [← HX.out]; exact map_some (by rw [filt_some HSP.out, hn, if_pos rfl])
      have HXN := Lib.hid hX
      clear hX hn
      simp only [pick, List.filterMap, List.getElem?_toArray, List.getElem?_cons_zero, List.getElem?_cons_succ, Act.put, List.setIfInBounds_toArray, List.set_cons_zero, List.set_cons_succ]
      iterate 4 (refine heldg_run ?_ rfl ?_ ?_; rotate_left; (focus (intro w' hS; obtain ⟨s0, s1, s2, y0, y1⟩ := hS; go_simp; exact rfl)); simp only [Act.put, List.setIfInBounds_toArray, List.set_cons_zero, List.set_cons_succ])
      refine heldg_nil ?_
      go_wp2_with fail
      go_ret2
      refine ⟨true, _, rfl, ?_⟩
      rw [HXN.out]
      exact ⟨rfl, rfl, g, K8.out, D8.out, HR8.out⟩
set_option maxRecDepth 100000 in
theorem mk_partS {α : Type} (nz : α → Bool) (Sp : ByteArray → Option (ByteArray × α)) (R : RelT α) (Pre : (Nat → Value) → Prop) (t o n kr kz : Nat) (er ez : Array Value) (w : World) (ho : o + 1 < n) (ht : t < w.heap.size)
    (hrd : ∀ w, t < w.heap.size → CallsV Try.prog (.func (.func kr) #[] er) #[.pointer (some ⟨t, o, none⟩)] w (MakesR Try.prog t n w Pre Sp R))
    (hzr : ∀ f d w lo hi g, Pre f → R d w lo hi f g → hi ≤ w.heap.size → CallsV Try.prog (.func (.func kz) #[] ez) #[.agg #[g o, g (o + 1)]] w fun e w' => e = .returned (.bool (!nz d)) ∧ Below w.heap.size w w')
    (hR : SoundR R) :
    Calls Try.prog 82 #[.pointer (some ⟨t, o, none⟩), .func (.func kz) #[] ez, .func (.func kr) #[] er] w (MakesR Try.prog t n w Pre (partSp nz Sp) (partR R)) := by
  have HO := Lib.hid ho
  have HT := Lib.hid ht
  have HRD := Lib.hid hrd
  have HZR := Lib.hid hzr
  have HR := Lib.hid hR
  clear ho ht hrd hzr hR
  go_enter Try.func82, Try.ntmps82
  go_wp2_with fail
  go_ret
  have b1 := (Below.refl w.heap.size w).alloc (Nat.le_refl _) (.cells #[.pointer (some ⟨t, o, none⟩)] 112)
  have b2 := b1.alloc b1.size (.cells #[.func (.func kz) #[] ez] 63)
  have b3 := b2.alloc b2.size (.cells #[.func (.func kr) #[] er] 102)
  have := HT.out
  refine ⟨_, _, rfl, b3, fun f b wx hb hk hx hp => ⟨_, _, rfl, own_partS, ?_⟩⟩
  refine partS_walk nz Sp R Pre t o n (w.heap.size + 2) w.heap.size (w.heap.size + 1) kr kz er ez f b wx hb HO.out hx hp HRD.out (HZR.out f) HR.out ?_ ?_ ?_ (by omega) (by omega) (by omega)
  · exact keep_cell2 (cell_at _ _ _ _ (by simp)) (by omega) hk
  · exact keep_cell2 (cell_old (cell_old (cell_at _ _ _ _ rfl))) (by omega) hk
  · exact keep_cell2 (cell_old (cell_at _ _ _ _ (by simp))) (by omega) hk
end Go.Proofs.Ytacnbpmoceocbaa
end
section
open Go Go.RowKit
namespace Go.Proofs.Ytacnbpmoceocbaa
open WW BB
theorem own_partQ : Own Try.prog 100 := ⟨_, Try.func100, by kernel_rfl, by kernel_rfl⟩
set_option maxRecDepth 100000 in
set_option maxHeartbeats 4000000 in
theorem partQ_walk {α : Type} (nz : α → Bool) (Sp : ByteArray → Option (ByteArray × α)) (R : RelT α) (Pre : (Nat → Value) → Prop) (t o n p q r kr kz : Nat) (er ez : Array Value) (f : Nat → Value) (b : ByteArray) (w : World) (hb : b.size ≤ 1000000) (ho : o + 2 < n) (ht : Blk w t n f) (hf : Pre f)
    (hrd : ∀ w, t < w.heap.size → CallsV Try.prog (.func (.func kr) #[] er) #[.pointer (some ⟨t, o, none⟩)] w (MakesR Try.prog t n w Pre Sp R))
    (hzr : ∀ d w lo hi g, Pre f → R d w lo hi f g → hi ≤ w.heap.size → CallsV Try.prog (.func (.func kz) #[] ez) #[.agg #[g o, g (o + 1), g (o + 2)]] w fun e w' => e = .returned (.bool (!nz d)) ∧ Below w.heap.size w w')
    (hR : SoundR R)
    (hp : w.cell? ⟨p, 0, none⟩ = some (.func (.func kr) #[] er)) (hq : w.cell? ⟨q, 0, none⟩ = some (.pointer (some ⟨t, o, none⟩))) (hr : w.cell? ⟨r, 0, none⟩ = some (.func (.func kz) #[] ez)) (p1 : p ≠ t) (q1 : q ≠ t) (r1 : r ≠ t) :
    Calls Try.prog 100 #[.string b, .pointer (some ⟨p, 0, none⟩), .pointer (some ⟨q, 0, none⟩), .pointer (some ⟨r, 0, none⟩)] w (Ans (EffR t n w f (partR R) (partSp nz Sp b))) := by
  have HB := Lib.hid hb
  have HO := Lib.hid ho
  have HT := Lib.hid ht
  have HF := Lib.hid hf
  have HRD := Lib.hid hrd
  have HZR := Lib.hid hzr
  have HR := Lib.hid hR
  have PQ := Lib.hid (And.intro p1 (And.intro q1 r1))
  have HP := Lib.hid hp
  have HQ := Lib.hid hq
  have HRR := Lib.hid hr
  clear hb ho ht hf hrd hzr hR p1 q1 r1
  by_cases h0 : b.size = 0
  · have hX : partSp nz Sp b = none := by unfold partSp; rw [if_pos h0]
    rw [hX]
    obtain rfl := nil_size b h0
    clear hX h0 hp hq hr
    go_enter Try.func100, Try.ntmps100
    go_wp2_with fail
    go_ret2
    exact ⟨false, _, rfl, rfl, f, Keep.refl _ _, HT.out⟩
  have n0 : 0 < b.size := by omega
  have g0 : (0 : Int) < (b.size : Int) := by omega
  have g1 : (1 : Int) ≤ (b.size : Int) := by omega
  have hm : b.data.toList.getD 0 0 = b[0] := by
    rw [List.getD_eq_getElem?_getD, List.getElem?_eq_getElem (by rw [ba_list]; exact n0)]; rfl
  have e0 : b.toList.isEmpty = false := by
    rw [ByteArray.toList_eq]
    rcases hl : b.data.toList with _ | ⟨c, l⟩
    · exact absurd (show b.size = 0 by show b.data.size = 0; rw [← Array.length_toList, hl]; rfl) h0
    · rfl
  obtain ⟨c, hc⟩ : ∃ c, b[0] = c := ⟨_, rfl⟩
  rw [hc] at hm
  have HM := Lib.hid hm
  have HC := Lib.hid hc
  have H0 := Lib.hid h0
  clear hm hc h0
  by_cases c0 : c = 0
  · have hX : partSp nz Sp b = some (b.extract 1 b.size, none) := by unfold partSp; rw [if_neg H0.out, if_pos (by rw [HM.out, c0])]
    rw [hX]
    have t0 : ((b[0].toNat : Int) == 0) = true := by rw [HC.out, c0]; rfl
    clear c0 hX hp hq hr
    go_enter Try.func100, Try.ntmps100
    go_wp2_with fail
    go_ret2
    exact ⟨true, _, rfl, rfl, rfl, f, Keep.refl _ _, HT.out, rfl⟩
  have t0 : ((b[0].toNat : Int) == 0) = false := by
    rw [beq_eq_false_iff_ne, HC.out]
    intro h
    exact c0 (UInt8.toNat_inj.1 (by simpa using h))
  by_cases c1 : c = 1
  rotate_left
  · have t1 : ((b[0].toNat : Int) == 1) = false := by
      rw [beq_eq_false_iff_ne, HC.out]
      intro h
      exact c1 (UInt8.toNat_inj.1 (by have : c.toNat = 1 := by omega
                                      rw [this]; rfl))
    have hX : partSp nz Sp b = none := by unfold partSp; rw [if_neg H0.out, if_neg (by rw [HM.out]; exact c0), if_neg (by rw [HM.out]; exact c1)]
    rw [hX]
    clear c0 c1 hX hp hq hr
    go_enter Try.func100, Try.ntmps100
    go_wp2_with fail
    go_ret2
    exact ⟨false, _, rfl, rfl, f, Keep.refl _ _, HT.out⟩
  have t1 : ((b[0].toNat : Int) == 1) = true := by rw [HC.out, c1]; rfl
  have hX : partSp nz Sp b = mapSp some (filtSp Sp nz) (b.extract 1 b.size) := by unfold partSp; rw [if_neg H0.out, if_neg (by rw [HM.out]; exact c0), if_pos (by rw [HM.out]; exact c1)]
  rw [hX]
  obtain ⟨b1, hb1⟩ : ∃ b1, b.extract 1 b.size = b1 := ⟨_, rfl⟩
  have HB1 := Lib.hid (show b1.size ≤ 1000000 by rw [← hb1]; have := HB.out; simp; omega)
  have HBE := Lib.hid hb1
  rw [hb1]
  obtain ⟨X, hXX⟩ : ∃ X, mapSp some (filtSp Sp nz) b1 = X := ⟨_, rfl⟩
  rw [hXX]
  have HX := Lib.hid hXX
  clear c0 c1 hX hb1 hXX
  go_enter Try.func100, Try.ntmps100
  go_upto_region 7 with fail
  refine two_callv (a1 := ?a1) [0, 1, 3, 4] [6, 7, 8, 9, 10] 2 5 _ _ 22 25 (.tmp 20) (.tmp 22) _ _ _ _ (fun w' => w'.cell? ⟨p, 0, none⟩ = some (.func (.func kr) #[] er) ∧ w'.cell? ⟨q, 0, none⟩ = some (.pointer (some ⟨t, o, none⟩)) ∧ w'.cell? ⟨r, 0, none⟩ = some (.func (.func kz) #[] ez)) (.func (.func kr) #[] er) #[.pointer (some ⟨t, o, none⟩)] #[.string b1] _ (fun _ w1 e w' => Ans (EffR t n w1 f R (Sp b1)) e w') (by kernel_rfl) (by kernel_rfl) (fun _ _ d _ _ h => by cases d <;> exact h) rfl rfl ⟨rfl, rfl⟩ rfl rfl rfl rfl ⟨hp, hq, hr⟩ ?hread ?hx1 ?ha1 (HRD.out _ HT.out.lt) (fun _ _ ⟨_, _, h, _⟩ => ⟨_, h⟩) ?h2
  case hread =>
    simp only [pick, List.filterMap, List.getElem?_toArray, List.getElem?_cons_zero, List.getElem?_cons_succ]
    iterate 4 (refine heldg_run ?_ rfl ?_ ?_; rotate_left; (focus (intro w' hS; obtain ⟨s0, s1, s2⟩ := hS; go_simp; exact rfl)); simp only [Act.put, List.setIfInBounds_toArray, List.set_cons_zero, List.set_cons_succ])
    exact rfl
  case hx1 => rfl
  case ha1 => simp [Act.eval]
  case h2 =>
  rintro u w1 ⟨k2, env2, hu, hb2, hcv⟩
  injection hu with hu
  subst hu
  have s1 := And.intro (keep_cell HP.out (((Below.refl w.heap.size w).drew).trans hb2)) (And.intro (keep_cell HQ.out (((Below.refl w.heap.size w).drew).trans hb2)) (keep_cell HRR.out (((Below.refl w.heap.size w).drew).trans hb2)))
  refine ⟨s1, ⟨rfl, ?ha2⟩, hcv f b1 w1 HB1.out (Keep.refl _ _) (HT.out.below (((Below.refl w.heap.size w).drew).trans hb2) HT.out.lt) HF.out, Ans.ret, ?_⟩
  case ha2 => simp [Act.eval, Act.put, HBE.out]
  rintro u2 w2 ⟨ok, rr, hu2, he⟩
  injection hu2 with hu2
  subst hu2
  have B1 := Lib.hid (((Below.refl w.heap.size w).drew).trans hb2)
  unfold EffR at he
  rcases hsp : Sp b1 with _ | ⟨r', d⟩
  · rw [hsp] at he
    obtain ⟨rfl, f', k2', d2⟩ := he
    have hX : X = none := by rw [← HX.out, map_none (filt_none hsp)]
    have HXN := Lib.hid hX
    have s2 := And.intro (keep_cell2 s1.1 PQ.out.1 k2') (And.intro (keep_cell2 s1.2.1 PQ.out.2.1 k2') (keep_cell2 s1.2.2 PQ.out.2.2 k2'))
    refine ⟨s2, ?_⟩
    have K2 := Lib.hid ((keep_of_below B1.out (Nat.le_refl _) t).trans k2')
    have D2 := Lib.hid d2
    clear hX hsp k2' d2 hcv s1 hb2 hp hq hr
    simp only [pick, List.filterMap, List.getElem?_toArray, List.getElem?_cons_zero, List.getElem?_cons_succ, Act.put, List.setIfInBounds_toArray, List.set_cons_zero, List.set_cons_succ]
    iterate 5 (refine heldg_run ?_ rfl ?_ ?_; rotate_left; (focus (intro w' hS; obtain ⟨s0, s1, s2⟩ := hS; go_simp; exact rfl)); simp only [Act.put, List.setIfInBounds_toArray, List.set_cons_zero, List.set_cons_succ])
    refine heldg_nil ?_
    clear s2
    go_wp2_with fail
    go_quiet (fail)
    go_wp2_with fail
    go_ret2
    refine ⟨false, _, rfl, ?_⟩
    rw [HXN.out]
    exact ⟨rfl, f', K2.out.trans (keep_of_below (below_drewN (Below.refl w2.heap.size w2) _) (Nat.le_refl _) t), D2.out.below (below_drewN (Below.refl w2.heap.size w2) _) D2.out.lt⟩
  · rw [hsp] at he
    obtain ⟨rfl, rfl, g, k2', d2, hR⟩ := he
    have s2 := And.intro (keep_cell2 s1.1 PQ.out.1 k2') (And.intro (keep_cell2 s1.2.1 PQ.out.2.1 k2') (keep_cell2 s1.2.2 PQ.out.2.2 k2'))
    refine ⟨s2, ?_⟩
    have K2 := Lib.hid ((keep_of_below B1.out (Nat.le_refl _) t).trans k2')
    have D2 := Lib.hid d2
    have HRR2 := Lib.hid hR
    have HSP := Lib.hid hsp
    have S2 := Lib.hid s2
    have W1 := Lib.hid B1.out.size
    clear hsp k2' d2 hcv s1 hb2 hp hq hr hR
    simp only [pick, List.filterMap, List.getElem?_toArray, List.getElem?_cons_zero, List.getElem?_cons_succ, Act.put, List.setIfInBounds_toArray, List.set_cons_zero, List.set_cons_succ]
    iterate 5 (refine heldg_run ?_ rfl ?_ ?_; rotate_left; (focus (intro w' hS; obtain ⟨s0, s1, s2⟩ := hS; go_simp; exact rfl)); simp only [Act.put, List.setIfInBounds_toArray, List.set_cons_zero, List.set_cons_succ])
    refine heldg_nil ?_
    clear s2
    go_upto_region 8 with fail
    have x0 : w2.cell? ⟨t, o, none⟩ = some (g o) := D2.out.get o (by have := HO.out; omega)
    have x1 : w2.cell? ⟨t, o + 1, none⟩ = some (g (o + 1)) := D2.out.get (o + 1) (by have := HO.out; omega)
    have x2 : w2.cell? ⟨t, o + 2, none⟩ = some (g (o + 2)) := D2.out.get (o + 2) (by have := HO.out; omega)
    refine one_callv (a1 := ?a8) [0, 1, 2, 3, 4, 5, 6] [8, 9, 10, 11] 7 _ 35 (.tmp 31) _ _ (.func (.func kz) #[] ez) #[.agg #[g o, g (o + 1), g (o + 2)]] _ (fun w' => w'.cell? ⟨p, 0, none⟩ = some (.func (.func kr) #[] er) ∧ w'.cell? ⟨q, 0, none⟩ = some (.pointer (some ⟨t, o, none⟩)) ∧ w'.cell? ⟨r, 0, none⟩ = some (.func (.func kz) #[] ez) ∧ w'.cell? ⟨t, o, none⟩ = some (g o) ∧ w'.cell? ⟨t, o + 1, none⟩ = some (g (o + 1)) ∧ w'.cell? ⟨t, o + 2, none⟩ = some (g (o + 2))) (by kernel_rfl) (by kernel_rfl) (fun _ _ d _ _ h => by cases d <;> exact h) rfl rfl rfl ⟨S2.out.1, S2.out.2.1, S2.out.2.2, x0, x1, x2⟩ ?hread8 ?hgc8 ?hx8 ?has8 ((HZR.out d w2.drew w1.heap.size w2.heap.size g HF.out (HR.out.keep HRR2.out fun _ _ _ => rfl) (Nat.le_refl _))) (fun _ _ ⟨h, _⟩ => ⟨_, h⟩) ?ht8
    case hread8 =>
      simp only [pick, List.filterMap, List.getElem?_toArray, List.getElem?_cons_zero, List.getElem?_cons_succ]
      iterate 7 (refine heldg_run ?_ rfl ?_ ?_; rotate_left; (focus (intro w' hS; obtain ⟨s0, s1, s2, y0, y1, y2⟩ := hS; go_simp; exact rfl)); simp only [Act.put, List.setIfInBounds_toArray, List.set_cons_zero, List.set_cons_succ])
      exact rfl
    case hgc8 => rfl
    case hx8 => rfl
    case has8 => simp [Act.eval]
    case ht8 =>
    rintro u w8 ⟨hu, hb8⟩
    injection hu with hu
    subst hu
    have B8 := Lib.hid ((Below.refl w2.heap.size w2).drew.trans hb8)
    refine ⟨⟨cell_b S2.out.1 B8.out, cell_b S2.out.2.1 B8.out, cell_b S2.out.2.2 B8.out, cell_b x0 B8.out, cell_b x1 B8.out, cell_b x2 B8.out⟩, ?_⟩
    have K8 := Lib.hid (K2.out.trans (keep_of_below B8.out (Nat.le_refl _) t))
    have D8 := Lib.hid (D2.out.below B8.out D2.out.lt)
    have HR8 := Lib.hid (HR.out.wide (HR.out.keep HRR2.out fun c h1 h2 => B8.out.block c h2) W1.out B8.out.size)
    clear hb8 x0 x1 x2
    rcases hn : nz d with _ | _
    · have hX : X = none := by rw [← HX.out, map_none]; rw [filt_some HSP.out, hn, if_neg (by simp)]
      have HXN := Lib.hid hX
      clear hX hn
      simp only [pick, List.filterMap, List.getElem?_toArray, List.getElem?_cons_zero, List.getElem?_cons_succ, Act.put, List.setIfInBounds_toArray, List.set_cons_zero, List.set_cons_succ]
      iterate 4 (refine heldg_run ?_ rfl ?_ ?_; rotate_left; (focus (intro w' hS; obtain ⟨s0, s1, s2, y0, y1, y2⟩ := hS; go_simp; exact rfl)); simp only [Act.put, List.setIfInBounds_toArray, List.set_cons_zero, List.set_cons_succ])
      refine heldg_nil ?_
      go_wp2_with fail
      go_ret2
      refine ⟨false, _, rfl, ?_⟩
      rw [HXN.out]
      exact ⟨rfl, g, K8.out, D8.out⟩
    · have hX : X = some (rr, some d) := by rw [← HX.out]; exact map_some (by rw [filt_some HSP.out, hn, if_pos rfl])
      have HXN := Lib.hid hX
      clear hX hn
      simp only [pick, List.filterMap, List.getElem?_toArray, List.getElem?_cons_zero, List.getElem?_cons_succ, Act.put, List.setIfInBounds_toArray, List.set_cons_zero, List.set_cons_succ]
      iterate 4 (refine heldg_run ?_ rfl ?_ ?_; rotate_left; (focus (intro w' hS; obtain ⟨s0, s1, s2, y0, y1, y2⟩ := hS; go_simp; exact rfl)); simp only [Act.put, List.setIfInBounds_toArray, List.set_cons_zero, List.set_cons_succ])
      refine heldg_nil ?_
      go_wp2_with fail
      go_ret2
      refine ⟨true, _, rfl, ?_⟩
      rw [HXN.out]
      exact ⟨rfl, rfl, g, K8.out, D8.out, HR8.out⟩
set_option maxRecDepth 100000 in
theorem mk_partQ {α : Type} (nz : α → Bool) (Sp : ByteArray → Option (ByteArray × α)) (R : RelT α) (Pre : (Nat → Value) → Prop) (t o n kr kz : Nat) (er ez : Array Value) (w : World) (ho : o + 2 < n) (ht : t < w.heap.size)
    (hrd : ∀ w, t < w.heap.size → CallsV Try.prog (.func (.func kr) #[] er) #[.pointer (some ⟨t, o, none⟩)] w (MakesR Try.prog t n w Pre Sp R))
    (hzr : ∀ f d w lo hi g, Pre f → R d w lo hi f g → hi ≤ w.heap.size → CallsV Try.prog (.func (.func kz) #[] ez) #[.agg #[g o, g (o + 1), g (o + 2)]] w fun e w' => e = .returned (.bool (!nz d)) ∧ Below w.heap.size w w')
    (hR : SoundR R) :
    Calls Try.prog 83 #[.pointer (some ⟨t, o, none⟩), .func (.func kz) #[] ez, .func (.func kr) #[] er] w (MakesR Try.prog t n w Pre (partSp nz Sp) (partR R)) := by
  have HO := Lib.hid ho
  have HT := Lib.hid ht
  have HRD := Lib.hid hrd
  have HZR := Lib.hid hzr
  have HR := Lib.hid hR
  clear ho ht hrd hzr hR
  go_enter Try.func83, Try.ntmps83
  go_wp2_with fail
  go_ret
  have b1 := (Below.refl w.heap.size w).alloc (Nat.le_refl _) (.cells #[.pointer (some ⟨t, o, none⟩)] 89)
  have b2 := b1.alloc b1.size (.cells #[.func (.func kz) #[] ez] 44)
  have b3 := b2.alloc b2.size (.cells #[.func (.func kr) #[] er] 62)
  have := HT.out
  refine ⟨_, _, rfl, b3, fun f b wx hb hk hx hp => ⟨_, _, rfl, own_partQ, ?_⟩⟩
  refine partQ_walk nz Sp R Pre t o n (w.heap.size + 2) w.heap.size (w.heap.size + 1) kr kz er ez f b wx hb HO.out hx hp HRD.out (HZR.out f) HR.out ?_ ?_ ?_ (by omega) (by omega) (by omega)
  · exact keep_cell2 (cell_at _ _ _ _ (by simp)) (by omega) hk
  · exact keep_cell2 (cell_old (cell_old (cell_at _ _ _ _ rfl))) (by omega) hk
  · exact keep_cell2 (cell_old (cell_at _ _ _ _ (by simp))) (by omega) hk
end Go.Proofs.Ytacnbpmoceocbaa
end
