/-
  What the cells of a message that was read are.
-/
import Derived.Test.YtphlpgdbngbplaaKWPartC
import Derived.Test.YtphlpgdbngbplaaKKeyed
import Derived.BigQuiet
import Derived.Deep.QuietTactic
import Derived.Deep.CutRange
import Derived.Deep.RegionHeld3
section
open Go Go.RowKit
namespace Go.Proofs.Ytphlpgdbngbplaa
open WW BB
theorem own_partS : Own Try.prog 74 := ⟨_, Try.func74, by kernel_rfl, by kernel_rfl⟩
set_option maxRecDepth 100000 in
set_option maxHeartbeats 4000000 in
theorem partS_walk {α : Type} (nz : α → Bool) (Sp : ByteArray → Option (ByteArray × α)) (R : RelT α) (Pre : (Nat → Value) → Prop) (t o n p q r kr kz : Nat) (er ez : Array Value) (f : Nat → Value) (b : ByteArray) (w : World) (hb : b.size ≤ 1000000) (ho : o + 1 < n) (ht : Blk w t n f) (hf : Pre f)
    (hrd : ∀ w, t < w.heap.size → CallsV Try.prog (.func (.func kr) #[] er) #[.pointer (some ⟨t, o, none⟩)] w (MakesR Try.prog t n w Pre Sp R))
    (hzr : ∀ d w lo hi g, Pre f → R d w lo hi f g → hi ≤ w.heap.size → CallsV Try.prog (.func (.func kz) #[] ez) #[.agg #[g o, g (o + 1)]] w fun e w' => e = .returned (.bool (!nz d)) ∧ Below w.heap.size w w')
    (hR : SoundR R)
    (hp : w.cell? ⟨p, 0, none⟩ = some (.func (.func kr) #[] er)) (hq : w.cell? ⟨q, 0, none⟩ = some (.pointer (some ⟨t, o, none⟩))) (hr : w.cell? ⟨r, 0, none⟩ = some (.func (.func kz) #[] ez)) (p1 : p ≠ t) (q1 : q ≠ t) (r1 : r ≠ t) :
    Calls Try.prog 74 #[.string b, .pointer (some ⟨p, 0, none⟩), .pointer (some ⟨q, 0, none⟩), .pointer (some ⟨r, 0, none⟩)] w (Ans (EffR t n w f (partR R) (partSp nz Sp b))) := by
  have HB := Lib.hid hb
  have HO := Lib.hid ho
  have HT := Lib.hid ht
  have HF := Lib.hid hf
  have HRD := Lib.hid hrd
  have HZR := Lib.hid hzr
  have HR := Lib.hid hR
  have PQ := Lib.hid (And.intro p1 (And.intro q1 r1))
  have HP := Lib.hid hp
  have HQ := Lib.hid hq
  have HRR := Lib.hid hr
  clear hb ho ht hf hrd hzr hR p1 q1 r1
  by_cases h0 : b.size = 0
  · have hX : partSp nz Sp b = none := by unfold partSp; rw [if_pos h0]
    rw [hX]
    obtain rfl := nil_size b h0
    clear hX h0 hp hq hr
    go_enter Try.func74, Try.ntmps74
    go_wp2_with fail
    go_ret2
    exact ⟨false, _, rfl, rfl, f, Keep.refl _ _, HT.out⟩
  have n0 : 0 < b.size := by omega
  have g0 : (0 : Int) < (b.size : Int) := by omega
  have g1 : (1 : Int) ≤ (b.size : Int) := by omega
  have hm : b.data.toList.getD 0 0 = b[0] := by
    rw [List.getD_eq_getElem?_getD, List.getElem?_eq_getElem (by rw [ba_list]; exact n0)]; rfl
  have e0 : b.toList.isEmpty = false := by
    rw [ByteArray.toList_eq]
    rcases hl : b.data.toList with _ | ⟨c, l⟩
    · exact absurd (show b.size = 0 by show b.data.size = 0; rw [← Array.length_toList, hl]; rfl) h0
    · rfl
  obtain ⟨c, hc⟩ : ∃ c, b[0] = c := ⟨_, rfl⟩
  rw [hc] at hm
  have HM := Lib.hid hm
  have HC := Lib.hid hc
  have H0 := Lib.hid h0
  clear hm hc h0
  by_cases c0 : c = 0
  · have hX : partSp nz Sp b = some (b.extract 1 b.size, none) := by unfold partSp; rw [if_neg H0.out, if_pos (by rw [HM.out, c0])]
    rw [hX]
    have t0 : ((b[0].toNat : Int) == 0) = true := by rw [HC.out, c0]; rfl
    clear c0 hX hp hq hr
    go_enter Try.func74, Try.ntmps74
    go_wp2_with fail
    go_ret2
    exact ⟨true, _, rfl, rfl, rfl, f, Keep.refl _ _, HT.out, rfl⟩
  have t0 : ((b[0].toNat : Int) == 0) = false := by
    rw [beq_eq_false_iff_ne, HC.out]
    intro h
    exact c0 (UInt8.toNat_inj.1 (by simpa using h))
  by_cases c1 : c = 1
  rotate_left
  · have t1 : ((b[0].toNat : Int) == 1) = false := by
      rw [beq_eq_false_iff_ne, HC.out]
      intro h
      exact c1 (UInt8.toNat_inj.1 (by have : c.toNat = 1 := by omega
                                      rw [this]; rfl))
    have hX : partSp nz Sp b = none := by unfold partSp; rw [if_neg H0.out, if_neg (by rw [HM.out]; exact c0), if_neg (by rw [HM.out]; exact c1)]
    rw [hX]
    clear c0 c1 hX hp hq hr
    go_enter Try.func74, Try.ntmps74
    go_wp2_with fail
    go_ret2
    exact ⟨false, _, rfl, rfl, f, Keep.refl _ _, HT.out⟩
  have t1 : ((b[0].toNat : Int) == 1) = true := by rw [HC.out, c1]; rfl
  have hX : partSp nz Sp b = mapSp some (filtSp Sp nz) (b.extract 1 b.size) := by unfold partSp; rw [if_neg H0.out, if_neg (by rw [HM.out]; exact c0), if_pos (by rw [HM.out]; exact c1)]
  rw [hX]
  obtain ⟨b1, hb1⟩ : ∃ b1, b.extract 1 b.size = b1 := ⟨_, rfl⟩
  have HB1 := Lib.hid (show b1.size ≤ 1000000 by rw [← hb1]; have := HB.out; simp; omega)
  have HBE := Lib.hid hb1
  rw [hb1]
  obtain ⟨X, hXX⟩ : ∃ X, mapSp some (filtSp Sp nz) b1 = X := ⟨_, rfl⟩
  rw [hXX]
  have HX := Lib.hid hXX
  clear c0 c1 hX hb1 hXX
  go_enter Try.func74, Try.ntmps74
  go_upto_region 7 with fail
  refine two_callv (a1 := ?a1) [0, 1, 3, 4] [6, 7, 8, 9, 10] 2 5 _ _ 22 25 (.tmp 20) (.tmp 22) _ _ _ _ (fun w' => w'.cell? ⟨p, 0, none⟩ = some (.func (.func kr) #[] er) ∧ w'.cell? ⟨q, 0, none⟩ = some (.pointer (some ⟨t, o, none⟩)) ∧ w'.cell? ⟨r, 0, none⟩ = some (.func (.func kz) #[] ez)) (.func (.func kr) #[] er) #[.pointer (some ⟨t, o, none⟩)] #[.string b1] _ (fun _ w1 e w' => Ans (EffR t n w1 f R (Sp b1)) e w') (by kernel_rfl) (by kernel_rfl) (fun _ _ d _ _ h => by cases d <;> exact h) rfl rfl ⟨rfl, rfl⟩ rfl rfl rfl rfl ⟨hp, hq, hr⟩ ?hread ?hx1 ?ha1 (HRD.out _ HT.out.lt) (fun _ _ ⟨_, _, h, _⟩ => ⟨_, h⟩) ?h2
  case hread =>
    simp only [pick, List.filterMap, List.getElem?_toArray, List.getElem?_cons_zero, List.getElem?_cons_succ]
    iterate 4 (refine heldg_run ?_ rfl ?_ ?_; rotate_left; (focus (intro w' hS; obtain ⟨s0, s1, s2⟩ := hS; go_simp; exact rfl)); simp only [Act.put, List.setIfInBounds_toArray, List.set_cons_zero, List.set_cons_succ])
    exact rfl
  case hx1 => rfl
  case ha1 => simp [Act.eval]
  case h2 =>
  rintro u w1 ⟨k2, env2, hu, hb2, hcv⟩
  injection hu with hu
  subst hu
  have s1 := And.intro (keep_cell HP.out (((Below.refl w.heap.size w).drew).trans hb2)) (And.intro (keep_cell HQ.out (((Below.refl w.heap.size w).drew).trans hb2)) (keep_cell HRR.out (((Below.refl w.heap.size w).drew).trans hb2)))
  refine ⟨s1, ⟨rfl, ?ha2⟩, hcv f b1 w1 HB1.out (Keep.refl _ _) (HT.out.below (((Below.refl w.heap.size w).drew).trans hb2) HT.out.lt) HF.out, Ans.ret, ?_⟩
  case ha2 => simp [Act.eval, Act.put, HBE.out]
  rintro u2 w2 ⟨ok, rr, hu2, he⟩
  injection hu2 with hu2
  subst hu2
  have B1 := Lib.hid (((Below.refl w.heap.size w).drew).trans hb2)
  unfold EffR at he
  rcases hsp : Sp b1 with _ | ⟨r', d⟩
  · rw [hsp] at he
    obtain ⟨rfl, f', k2', d2⟩ := he
    have hX : X = none := by rw [← HX.out, map_none (filt_none hsp)]
    have HXN := Lib.hid hX
    have s2 := And.intro (keep_cell2 s1.1 PQ.out.1 k2') (And.intro (keep_cell2 s1.2.1 PQ.out.2.1 k2') (keep_cell2 s1.2.2 PQ.out.2.2 k2'))
    refine ⟨s2, ?_⟩
    have K2 := Lib.hid ((keep_of_below B1.out (Nat.le_refl _) t).trans k2')
    have D2 := Lib.hid d2
    clear hX hsp k2' d2 hcv s1 hb2 hp hq hr
    simp only [pick, List.filterMap, List.getElem?_toArray, List.getElem?_cons_zero, List.getElem?_cons_succ, Act.put, List.setIfInBounds_toArray, List.set_cons_zero, List.set_cons_succ]
    iterate 5 (refine heldg_run ?_ rfl ?_ ?_; rotate_left; (focus (intro w' hS; obtain ⟨s0, s1, s2⟩ := hS; go_simp; exact rfl)); simp only [Act.put, List.setIfInBounds_toArray, List.set_cons_zero, List.set_cons_succ])
    refine heldg_nil ?_
    clear s2
    go_wp2_with fail
    go_quiet (fail)
    go_wp2_with fail
    go_ret2
    refine ⟨false, _, rfl, ?_⟩
    rw [HXN.out]
    exact ⟨rfl, f', K2.out.trans (keep_of_below (below_drewN (Below.refl w2.heap.size w2) _) (Nat.le_refl _) t), D2.out.below (below_drewN (Below.refl w2.heap.size w2) _) D2.out.lt⟩
  · rw [hsp] at he
    obtain ⟨rfl, rfl, g, k2', d2, hR⟩ := he
    have s2 := And.intro (keep_cell2 s1.1 PQ.out.1 k2') (And.intro (keep_cell2 s1.2.1 PQ.out.2.1 k2') (keep_cell2 s1.2.2 PQ.out.2.2 k2'))
    refine ⟨s2, ?_⟩
    have K2 := Lib.hid ((keep_of_below B1.out (Nat.le_refl _) t).trans k2')
    have D2 := Lib.hid d2
    have HRR2 := Lib.hid hR
    have HSP := Lib.hid hsp
    have S2 := Lib.hid s2
    have W1 := Lib.hid B1.out.size
    clear hsp k2' d2 hcv s1 hb2 hp hq hr hR
    simp only [pick, List.filterMap, List.getElem?_toArray, List.getElem?_cons_zero, List.getElem?_cons_succ, Act.put, List.setIfInBounds_toArray, List.set_cons_zero, List.set_cons_succ]
    iterate 5 (refine heldg_run ?_ rfl ?_ ?_; rotate_left; (focus (intro w' hS; obtain ⟨s0, s1, s2⟩ := hS; go_simp; exact rfl)); simp only [Act.put, List.setIfInBounds_toArray, List.set_cons_zero, List.set_cons_succ])
    refine heldg_nil ?_
    clear s2
    go_upto_region 8 with fail
    have x0 : w2.cell? ⟨t, o, none⟩ = some (g o) := D2.out.get o (by have := HO.out; omega)
    have x1 : w2.cell? ⟨t, o + 1, none⟩ = some (g (o + 1)) := D2.out.get (o + 1) (by have := HO.out; omega)
    refine one_callv (a1 := ?a8) [0, 1, 2, 3, 4, 5, 6] [8, 9, 10, 11] 7 _ 35 (.tmp 31) _ _ (.func (.func kz) #[] ez) #[.agg #[g o, g (o + 1)]] _ (fun w' => w'.cell? ⟨p, 0, none⟩ = some (.func (.func kr) #[] er) ∧ w'.cell? ⟨q, 0, none⟩ = some (.pointer (some ⟨t, o, none⟩)) ∧ w'.cell? ⟨r, 0, none⟩ = some (.func (.func kz) #[] ez) ∧ w'.cell? ⟨t, o, none⟩ = some (g o) ∧ w'.cell? ⟨t, o + 1, none⟩ = some (g (o + 1))) (by kernel_rfl) (by kernel_rfl) (fun _ _ d _ _ h => by cases d <;> exact h) rfl rfl rfl ⟨S2.out.1, S2.out.2.1, S2.out.2.2, x0, x1⟩ ?hread8 ?hgc8 ?hx8 ?has8 ((HZR.out d w2.drew w1.heap.size w2.heap.size g HF.out (HR.out.keep HRR2.out fun _ _ _ => rfl) (Nat.le_refl _))) (fun _ _ ⟨h, _⟩ => ⟨_, h⟩) ?ht8
    case hread8 =>
      simp only [pick, List.filterMap, List.getElem?_toArray, List.getElem?_cons_zero, List.getElem?_cons_succ]
      iterate 7 (refine heldg_run ?_ rfl ?_ ?_; rotate_left; (focus (intro w' hS; obtain ⟨s0, s1, s2, y0, y1⟩ := hS; go_simp; exact rfl)); simp only [Act.put, List.setIfInBounds_toArray, List.set_cons_zero, List.set_cons_succ])
      exact rfl
    case hgc8 => rfl
    case hx8 => rfl
    case has8 => simp [Act.eval]
    case ht8 =>
    rintro u w8 ⟨hu, hb8⟩
    injection hu with hu
    subst hu
    have B8 := Lib.hid ((Below.refl w2.heap.size w2).drew.trans hb8)
    refine ⟨⟨cell_b S2.out.1 B8.out, cell_b S2.out.2.1 B8.out, cell_b S2.out.2.2 B8.out, cell_b x0 B8.out, cell_b x1 B8.out⟩, ?_⟩
    have K8 := Lib.hid (K2.out.trans (keep_of_below B8.out (Nat.le_refl _) t))
    have D8 := Lib.hid (D2.out.below B8.out D2.out.lt)
    have HR8 := Lib.hid (HR.out.wide (HR.out.keep HRR2.out fun c h1 h2 => B8.out.block c h2) W1.out B8.out.size)
    clear hb8 x0 x1
    rcases hn : nz d with _ | _
    · have hX : X = none := by rw [← HX.out, map_none]; rw [filt_some HSP.out, hn, if_neg (by simp)]
      have HXN := Lib.hid hX
      clear hX hn
      simp only [pick, List.filterMap, List.getElem?_toArray, List.getElem?_cons_zero, List.getElem?_cons_succ, Act.put, List.setIfInBounds_toArray, List.set_cons_zero, List.set_cons_succ]
      iterate 4 (refine heldg_run ?_ rfl ?_ ?_; rotate_left; (focus (intro w' hS; obtain ⟨s0, s1, s2, y0, y1⟩ := hS; go_simp; exact rfl)); simp only [Act.put, List.setIfInBounds_toArray, List.set_cons_zero, List.set_cons_succ])
      refine heldg_nil ?_
      go_wp2_with fail
      go_ret2
      refine ⟨false, _, rfl, ?_⟩
      rw [HXN.out]
      exact ⟨rfl, g, K8.out, D8.out⟩
    · have hX : X = some (rr, some d) := by rw [← HX.out]; exact map_some (by rw [filt_some HSP.out, hn, if_pos rfl])
      have HXN := Lib.hid hX
      clear hX hn
      simp only [pick, List.filterMap, List.getElem?_toArray, List.getElem?_cons_zero, List.getElem?_cons_succ, Act.put, List.setIfInBounds_toArray, List.set_cons_zero, List.set_cons_succ]
      iterate 4 (refine heldg_run ?_ rfl ?_ ?_; rotate_left; (focus (intro w' hS; obtain ⟨s0, s1, s2, y0, y1⟩ := hS; go_simp; exact rfl)); simp only [Act.put, List.setIfInBounds_toArray, List.set_cons_zero, List.set_cons_succ])
      refine heldg_nil ?_
      go_wp2_with fail
      go_ret2
      refine ⟨true, _, rfl, ?_⟩
      rw [HXN.out]
      exact ⟨rfl, rfl, g, K8.out, D8.out, HR8.out⟩
set_option maxRecDepth 100000 in
theorem mk_partS {α : Type} (nz : α → Bool) (Sp : ByteArray → Option (ByteArray × α)) (R : RelT α) (Pre : (Nat → Value) → Prop) (t o n kr kz : Nat) (er ez : Array Value) (w : World) (ho : o + 1 < n) (ht : t < w.heap.size)
    (hrd : ∀ w, t < w.heap.size → CallsV Try.prog (.func (.func kr) #[] er) #[.pointer (some ⟨t, o, none⟩)] w (MakesR Try.prog t n w Pre Sp R))
    (hzr : ∀ f d w lo hi g, Pre f → R d w lo hi f g → hi ≤ w.heap.size → CallsV Try.prog (.func (.func kz) #[] ez) #[.agg #[g o, g (o + 1)]] w fun e w' => e = .returned (.bool (!nz d)) ∧ Below w.heap.size w w')
    (hR : SoundR R) :
    Calls Try.prog 55 #[.pointer (some ⟨t, o, none⟩), .func (.func kz) #[] ez, .func (.func kr) #[] er] w (MakesR Try.prog t n w Pre (partSp nz Sp) (partR R)) := by
  have HO := Lib.hid ho
  have HT := Lib.hid ht
  have HRD := Lib.hid hrd
  have HZR := Lib.hid hzr
  have HR := Lib.hid hR
  clear ho ht hrd hzr hR
  go_enter Try.func55, Try.ntmps55
  go_wp2_with fail
  go_ret
  have b1 := (Below.refl w.heap.size w).alloc (Nat.le_refl _) (.cells #[.pointer (some ⟨t, o, none⟩)] 103)
  have b2 := b1.alloc b1.size (.cells #[.func (.func kz) #[] ez] 66)
  have b3 := b2.alloc b2.size (.cells #[.func (.func kr) #[] er] 104)
  have := HT.out
  refine ⟨_, _, rfl, b3, fun f b wx hb hk hx hp => ⟨_, _, rfl, own_partS, ?_⟩⟩
  refine partS_walk nz Sp R Pre t o n (w.heap.size + 2) w.heap.size (w.heap.size + 1) kr kz er ez f b wx hb HO.out hx hp HRD.out (HZR.out f) HR.out ?_ ?_ ?_ (by omega) (by omega) (by omega)
  · exact keep_cell2 (cell_at _ _ _ _ (by simp)) (by omega) hk
  · exact keep_cell2 (cell_old (cell_old (cell_at _ _ _ _ rfl))) (by omega) hk
  · exact keep_cell2 (cell_old (cell_at _ _ _ _ (by simp))) (by omega) hk
end Go.Proofs.Ytphlpgdbngbplaa
end
section
open Go Go.RowKit
namespace Go.Proofs.Ytphlpgdbngbplaa
open WW BB
theorem own_partQ : Own Try.prog 77 := ⟨_, Try.func77, by kernel_rfl, by kernel_rfl⟩
set_option maxRecDepth 100000 in
set_option maxHeartbeats 4000000 in
theorem partQ_walk {α : Type} (nz : α → Bool) (Sp : ByteArray → Option (ByteArray × α)) (R : RelT α) (Pre : (Nat → Value) → Prop) (t o n p q r kr kz : Nat) (er ez : Array Value) (f : Nat → Value) (b : ByteArray) (w : World) (hb : b.size ≤ 1000000) (ho : o + 2 < n) (ht : Blk w t n f) (hf : Pre f)
    (hrd : ∀ w, t < w.heap.size → CallsV Try.prog (.func (.func kr) #[] er) #[.pointer (some ⟨t, o, none⟩)] w (MakesR Try.prog t n w Pre Sp R))
    (hzr : ∀ d w lo hi g, Pre f → R d w lo hi f g → hi ≤ w.heap.size → CallsV Try.prog (.func (.func kz) #[] ez) #[.agg #[g o, g (o + 1), g (o + 2)]] w fun e w' => e = .returned (.bool (!nz d)) ∧ Below w.heap.size w w')
    (hR : SoundR R)
    (hp : w.cell? ⟨p, 0, none⟩ = some (.func (.func kr) #[] er)) (hq : w.cell? ⟨q, 0, none⟩ = some (.pointer (some ⟨t, o, none⟩))) (hr : w.cell? ⟨r, 0, none⟩ = some (.func (.func kz) #[] ez)) (p1 : p ≠ t) (q1 : q ≠ t) (r1 : r ≠ t) :
    Calls Try.prog 77 #[.string b, .pointer (some ⟨p, 0, none⟩), .pointer (some ⟨q, 0, none⟩), .pointer (some ⟨r, 0, none⟩)] w (Ans (EffR t n w f (partR R) (partSp nz Sp b))) := by
  have HB := Lib.hid hb
  have HO := Lib.hid ho
  have HT := Lib.hid ht
  have HF := Lib.hid hf
  have HRD := Lib.hid hrd
  have HZR := Lib.hid hzr
  have HR := Lib.hid hR
  have PQ := Lib.hid (And.intro p1 (And.intro q1 r1))
  have HP := Lib.hid hp
  have HQ := Lib.hid hq
  have HRR := Lib.hid hr
  clear hb ho ht hf hrd hzr hR p1 q1 r1
  by_cases h0 : b.size = 0
  · have hX : partSp nz Sp b = none := by unfold partSp; rw [if_pos h0]
    rw [hX]
    obtain rfl := nil_size b h0
    clear hX h0 hp hq hr
    go_enter Try.func77, Try.ntmps77
    go_wp2_with fail
    go_ret2
    exact ⟨false, _, rfl, rfl, f, Keep.refl _ _, HT.out⟩
  have n0 : 0 < b.size := by omega
  have g0 : (0 : Int) < (b.size : Int) := by omega
  have g1 : (1 : Int) ≤ (b.size : Int) := by omega
  have hm : b.data.toList.getD 0 0 = b[0] := by
    rw [List.getD_eq_getElem?_getD, List.getElem?_eq_getElem (by rw [ba_list]; exact n0)]; rfl
  have e0 : b.toList.isEmpty = false := by
    rw [ByteArray.toList_eq]
    rcases hl : b.data.toList with _ | ⟨c, l⟩
    · exact absurd (show b.size = 0 by show b.data.size = 0; rw [← Array.length_toList, hl]; rfl) h0
    · rfl
  obtain ⟨c, hc⟩ : ∃ c, b[0] = c := ⟨_, rfl⟩
  rw [hc] at hm
  have HM := Lib.hid hm
  have HC := Lib.hid hc
  have H0 := Lib.hid h0
  clear hm hc h0
  by_cases c0 : c = 0
  · have hX : partSp nz Sp b = some (b.extract 1 b.size, none) := by unfold partSp; rw [if_neg H0.out, if_pos (by rw [HM.out, c0])]
    rw [hX]
    have t0 : ((b[0].toNat : Int) == 0) = true := by rw [HC.out, c0]; rfl
    clear c0 hX hp hq hr
    go_enter Try.func77, Try.ntmps77
    go_wp2_with fail
    go_ret2
    exact ⟨true, _, rfl, rfl, rfl, f, Keep.refl _ _, HT.out, rfl⟩
  have t0 : ((b[0].toNat : Int) == 0) = false := by
    rw [beq_eq_false_iff_ne, HC.out]
    intro h
    exact c0 (UInt8.toNat_inj.1 (by simpa using h))
  by_cases c1 : c = 1
  rotate_left
  · have t1 : ((b[0].toNat : Int) == 1) = false := by
      rw [beq_eq_false_iff_ne, HC.out]
      intro h
      exact c1 (UInt8.toNat_inj.1 (by have : c.toNat = 1 := by omega
                                      rw [this]; rfl))
    have hX : partSp nz Sp b = none := by unfold partSp; rw [if_neg H0.out, if_neg (by rw [HM.out]; exact c0), if_neg (by rw [HM.out]; exact c1)]
    rw [hX]
    clear c0 c1 hX hp hq hr
    go_enter Try.func77, Try.ntmps77
    go_wp2_with fail
    go_ret2
    exact ⟨false, _, rfl, rfl, f, Keep.refl _ _, HT.out⟩
  have t1 : ((b[0].toNat : Int) == 1) = true := by rw [HC.out, c1]; rfl
  have hX : partSp nz Sp b = mapSp some (filtSp Sp nz) (b.extract 1 b.size) := by unfold partSp; rw [if_neg H0.out, if_neg (by rw [HM.out]; exact c0), if_pos (by rw [HM.out]; exact c1)]
  rw [hX]
  obtain ⟨b1, hb1⟩ : ∃ b1, b.extract 1 b.size = b1 := ⟨_, rfl⟩
  have HB1 := Lib.hid (show b1.size ≤ 1000000 by rw [← hb1]; have := HB.out; simp; omega)
  have HBE := Lib.hid hb1
  rw [hb1]
  obtain ⟨X, hXX⟩ : ∃ X, mapSp some (filtSp Sp nz) b1 = X := ⟨_, rfl⟩
  rw [hXX]
  have HX := Lib.hid hXX
  clear c0 c1 hX hb1 hXX
  go_enter Try.func77, Try.ntmps77
  go_upto_region 7 with fail
  refine two_callv (a1 := ?a1) [0, 1, 3, 4] [6, 7, 8, 9, 10] 2 5 _ _ 22 25 (.tmp 20) (.tmp 22) _ _ _ _ (fun w' => w'.cell? ⟨p, 0, none⟩ = some (.func (.func kr) #[] er) ∧ w'.cell? ⟨q, 0, none⟩ = some (.pointer (some ⟨t, o, none⟩)) ∧ w'.cell? ⟨r, 0, none⟩ = some (.func (.func kz) #[] ez)) (.func (.func kr) #[] er) #[.pointer (some ⟨t, o, none⟩)] #[.string b1] _ (fun _ w1 e w' => Ans (EffR t n w1 f R (Sp b1)) e w') (by kernel_rfl) (by kernel_rfl) (fun _ _ d _ _ h => by cases d <;> exact h) rfl rfl ⟨rfl, rfl⟩ rfl rfl rfl rfl ⟨hp, hq, hr⟩ ?hread ?hx1 ?ha1 (HRD.out _ HT.out.lt) (fun _ _ ⟨_, _, h, _⟩ => ⟨_, h⟩) ?h2
  case hread =>
    simp only [pick, List.filterMap, List.getElem?_toArray, List.getElem?_cons_zero, List.getElem?_cons_succ]
    iterate 4 (refine heldg_run ?_ rfl ?_ ?_; rotate_left; (focus (intro w' hS; obtain ⟨s0, s1, s2⟩ := hS; go_simp; exact rfl)); simp only [Act.put, List.setIfInBounds_toArray, List.set_cons_zero, List.set_cons_succ])
    exact rfl
  case hx1 => rfl
  case ha1 => simp [Act.eval]
  case h2 =>
  rintro u w1 ⟨k2, env2, hu, hb2, hcv⟩
  injection hu with hu
  subst hu
  have s1 := And.intro (keep_cell HP.out (((Below.refl w.heap.size w).drew).trans hb2)) (And.intro (keep_cell HQ.out (((Below.refl w.heap.size w).drew).trans hb2)) (keep_cell HRR.out (((Below.refl w.heap.size w).drew).trans hb2)))
  refine ⟨s1, ⟨rfl, ?ha2⟩, hcv f b1 w1 HB1.out (Keep.refl _ _) (HT.out.below (((Below.refl w.heap.size w).drew).trans hb2) HT.out.lt) HF.out, Ans.ret, ?_⟩
  case ha2 => simp [Act.eval, Act.put, HBE.out]
  rintro u2 w2 ⟨ok, rr, hu2, he⟩
  injection hu2 with hu2
  subst hu2
  have B1 := Lib.hid (((Below.refl w.heap.size w).drew).trans hb2)
  unfold EffR at he
  rcases hsp : Sp b1 with _ | ⟨r', d⟩
  · rw [hsp] at he
    obtain ⟨rfl, f', k2', d2⟩ := he
    have hX : X = none := by rw [← HX.out, map_none (filt_none hsp)]
    have HXN := Lib.hid hX
    have s2 := And.intro (keep_cell2 s1.1 PQ.out.1 k2') (And.intro (keep_cell2 s1.2.1 PQ.out.2.1 k2') (keep_cell2 s1.2.2 PQ.out.2.2 k2'))
    refine ⟨s2, ?_⟩
    have K2 := Lib.hid ((keep_of_below B1.out (Nat.le_refl _) t).trans k2')
    have D2 := Lib.hid d2
    clear hX hsp k2' d2 hcv s1 hb2 hp hq hr
    simp only [pick, List.filterMap, List.getElem?_toArray, List.getElem?_cons_zero, List.getElem?_cons_succ, Act.put, List.setIfInBounds_toArray, List.set_cons_zero, List.set_cons_succ]
    iterate 5 (refine heldg_run ?_ rfl ?_ ?_; rotate_left; (focus (intro w' hS; obtain ⟨s0, s1, s2⟩ := hS; go_simp; exact rfl)); simp only [Act.put, List.setIfInBounds_toArray, List.set_cons_zero, List.set_cons_succ])
    refine heldg_nil ?_
    clear s2
    go_wp2_with fail
    go_quiet (fail)
    go_wp2_with fail
    go_ret2
    refine ⟨false, _, rfl, ?_⟩
    rw [HXN.out]
    exact ⟨rfl, f', K2.out.trans (keep_of_below (below_drewN (Below.refl w2.heap.size w2) _) (Nat.le_refl _) t), D2.out.below (below_drewN (Below.refl w2.heap.size w2) _) D2.out.lt⟩
  · rw [hsp] at he
    obtain ⟨rfl, rfl, g, k2', d2, hR⟩ := he
    have s2 := And.intro (keep_cell2 s1.1 PQ.out.1 k2') (And.intro (keep_cell2 s1.2.1 PQ.out.2.1 k2') (keep_cell2 s1.2.2 PQ.out.2.2 k2'))
    refine ⟨s2, ?_⟩
    have K2 := Lib.hid ((keep_of_below B1.out (Nat.le_refl _) t).trans k2')
    have D2 := Lib.hid d2
    have HRR2 := Lib.hid hR
    have HSP := Lib.hid hsp
    have S2 := Lib.hid s2
    have W1 := Lib.hid B1.out.size
    clear hsp k2' d2 hcv s1 hb2 hp hq hr hR
    simp only [pick, List.filterMap, List.getElem?_toArray, List.getElem?_cons_zero, List.getElem?_cons_succ, Act.put, List.setIfInBounds_toArray, List.set_cons_zero, List.set_cons_succ]
    iterate 5 (refine heldg_run ?_ rfl ?_ ?_; rotate_left; (focus (intro w' hS; obtain ⟨s0, s1, s2⟩ := hS; go_simp; exact rfl)); simp only [Act.put, List.setIfInBounds_toArray, List.set_cons_zero, List.set_cons_succ])
    refine heldg_nil ?_
    clear s2
    go_upto_region 8 with fail
    have x0 : w2.cell? ⟨t, o, none⟩ = some (g o) := D2.out.get o (by have := HO.out; omega)
    have x1 : w2.cell? ⟨t, o + 1, none⟩ = some (g (o + 1)) := D2.out.get (o + 1) (by have := HO.out; omega)
    have x2 : w2.cell? ⟨t, o + 2, none⟩ = some (g (o + 2)) := D2.out.get (o + 2) (by have := HO.out; omega)
    refine one_callv (a1 := ?a8) [0, 1, 2, 3, 4, 5, 6] [8, 9, 10, 11] 7 _ 35 (.tmp 31) _ _ (.func (.func kz) #[] ez) #[.agg #[g o, g (o + 1), g (o + 2)]] _ (fun w' => w'.cell? ⟨p, 0, none⟩ = some (.func (.func kr) #[] er) ∧ w'.cell? ⟨q, 0, none⟩ = some (.pointer (some ⟨t, o, none⟩)) ∧ w'.cell? ⟨r, 0, none⟩ = some (.func (.func kz) #[] ez) ∧ w'.cell? ⟨t, o, none⟩ = some (g o) ∧ w'.cell? ⟨t, o + 1, none⟩ = some (g (o + 1)) ∧ w'.cell? ⟨t, o + 2, none⟩ = some (g (o + 2))) (by kernel_rfl) (by kernel_rfl) (fun _ _ d _ _ h => by cases d <;> exact h) rfl rfl rfl ⟨S2.out.1, S2.out.2.1, S2.out.2.2, x0, x1, x2⟩ ?hread8 ?hgc8 ?hx8 ?has8 ((HZR.out d w2.drew w1.heap.size w2.heap.size g HF.out (HR.out.keep HRR2.out fun _ _ _ => rfl) (Nat.le_refl _))) (fun _ _ ⟨h, _⟩ => ⟨_, h⟩) ?ht8
    case hread8 =>
      simp only [pick, List.filterMap, List.getElem?_toArray, List.getElem?_cons_zero, List.getElem?_cons_succ]
      iterate 7 (refine heldg_run ?_ rfl ?_ ?_; rotate_left; (focus (intro w' hS; obtain ⟨s0, s1, s2, y0, y1, y2⟩ := hS; go_simp; exact rfl)); simp only [Act.put, List.setIfInBounds_toArray, List.set_cons_zero, List.set_cons_succ])
      exact rfl
    case hgc8 => rfl
    case hx8 => rfl
    case has8 => simp [Act.eval]
    case ht8 =>
    rintro u w8 ⟨hu, hb8⟩
    injection hu with hu
    subst hu
    have B8 := Lib.hid ((Below.refl w2.heap.size w2).drew.trans hb8)
    refine ⟨⟨cell_b S2.out.1 B8.out, cell_b S2.out.2.1 B8.out, cell_b S2.out.2.2 B8.out, cell_b x0 B8.out, cell_b x1 B8.out, cell_b x2 B8.out⟩, ?_⟩
    have K8 := Lib.hid (K2.out.trans (keep_of_below B8.out (Nat.le_refl _) t))
    have D8 := Lib.hid (D2.out.below B8.out D2.out.lt)
    have HR8 := Lib.hid (HR.out.wide (HR.out.keep HRR2.out fun c h1 h2 => B8.out.block c h2) W1.out B8.out.size)
    clear hb8 x0 x1 x2
    rcases hn : nz d with _ | _
    · have hX : X = none := by rw [← HX.out, map_none]; rw [filt_some HSP.out, hn, if_neg (by simp)]
      have HXN := Lib.hid hX
      clear hX hn
      simp only [pick, List.filterMap, List.getElem?_toArray, List.getElem?_cons_zero, List.getElem?_cons_succ, Act.put, List.setIfInBounds_toArray, List.set_cons_zero, List.set_cons_succ]
      iterate 4 (refine heldg_run ?_ rfl ?_ ?_; rotate_left; (focus (intro w' hS; obtain ⟨s0, s1, s2, y0, y1, y2⟩ := hS; go_simp; exact rfl)); simp only [Act.put, List.setIfInBounds_toArray, List.set_cons_zero, List.set_cons_succ])
      refine heldg_nil ?_
      go_wp2_with fail
      go_ret2
      refine ⟨false, _, rfl, ?_⟩
      rw [HXN.out]
      exact ⟨rfl, g, K8.out, D8.out⟩
    · have hX : X = some (rr, some d) := by rw [← HX.out]; exact map_some (by rw [filt_some HSP.out, hn, if_pos rfl])
      have HXN := Lib.hid hX
      clear hX hn
      simp only [pick, List.filterMap, List.getElem?_toArray, List.getElem?_cons_zero, List.getElem?_cons_succ, Act.put, List.setIfInBounds_toArray, List.set_cons_zero, List.set_cons_succ]
      iterate 4 (refine heldg_run ?_ rfl ?_ ?_; rotate_left; (focus (intro w' hS; obtain ⟨s0, s1, s2, y0, y1, y2⟩ := hS; go_simp; exact rfl)); simp only [Act.put, List.setIfInBounds_toArray, List.set_cons_zero, List.set_cons_succ])
      refine heldg_nil ?_
      go_wp2_with fail
      go_ret2
      refine ⟨true, _, rfl, ?_⟩
      rw [HXN.out]
      exact ⟨rfl, rfl, g, K8.out, D8.out, HR8.out⟩
set_option maxRecDepth 100000 in
theorem mk_partQ {α : Type} (nz : α → Bool) (Sp : ByteArray → Option (ByteArray × α)) (R : RelT α) (Pre : (Nat → Value) → Prop) (t o n kr kz : Nat) (er ez : Array Value) (w : World) (ho : o + 2 < n) (ht : t < w.heap.size)
    (hrd : ∀ w, t < w.heap.size → CallsV Try.prog (.func (.func kr) #[] er) #[.pointer (some ⟨t, o, none⟩)] w (MakesR Try.prog t n w Pre Sp R))
    (hzr : ∀ f d w lo hi g, Pre f → R d w lo hi f g → hi ≤ w.heap.size → CallsV Try.prog (.func (.func kz) #[] ez) #[.agg #[g o, g (o + 1), g (o + 2)]] w fun e w' => e = .returned (.bool (!nz d)) ∧ Below w.heap.size w w')
    (hR : SoundR R) :
    Calls Try.prog 58 #[.pointer (some ⟨t, o, none⟩), .func (.func kz) #[] ez, .func (.func kr) #[] er] w (MakesR Try.prog t n w Pre (partSp nz Sp) (partR R)) := by
  have HO := Lib.hid ho
  have HT := Lib.hid ht
  have HRD := Lib.hid hrd
  have HZR := Lib.hid hzr
  have HR := Lib.hid hR
  clear ho ht hrd hzr hR
  go_enter Try.func58, Try.ntmps58
  go_wp2_with fail
  go_ret
  have b1 := (Below.refl w.heap.size w).alloc (Nat.le_refl _) (.cells #[.pointer (some ⟨t, o, none⟩)] 106)
  have b2 := b1.alloc b1.size (.cells #[.func (.func kz) #[] ez] 67)
  have b3 := b2.alloc b2.size (.cells #[.func (.func kr) #[] er] 107)
  have := HT.out
  refine ⟨_, _, rfl, b3, fun f b wx hb hk hx hp => ⟨_, _, rfl, own_partQ, ?_⟩⟩
  refine partQ_walk nz Sp R Pre t o n (w.heap.size + 2) w.heap.size (w.heap.size + 1) kr kz er ez f b wx hb HO.out hx hp HRD.out (HZR.out f) HR.out ?_ ?_ ?_ (by omega) (by omega) (by omega)
  · exact keep_cell2 (cell_at _ _ _ _ (by simp)) (by omega) hk
  · exact keep_cell2 (cell_old (cell_old (cell_at _ _ _ _ rfl))) (by omega) hk
  · exact keep_cell2 (cell_old (cell_at _ _ _ _ (by simp))) (by omega) hk
end Go.Proofs.Ytphlpgdbngbplaa
end
section
open Go Go.RowKit
namespace WW
open BB
theorem emp_false {b : ByteArray} (h : ¬ b.size = 0) : b.toList.isEmpty = false := by
  rw [ByteArray.toList_eq]
  rcases hl : b.data.toList with _ | ⟨c, l⟩
  · exact absurd (show b.size = 0 by show b.data.size = 0; rw [← Array.length_toList, hl]; rfl) h
  · rfl
end WW
namespace Go.Proofs.Ytphlpgdbngbplaa
open WW BB
set_option maxRecDepth 100000 in
theorem zreq_any (c q : Int) (s : ByteArray) (w : World) : Calls Try.prog 59 #[.agg #[.int .i64 c, .int .i64 q, .string s]] w fun e w' => e = .returned (.bool (!nzR (c, q, s))) ∧ Below w.heap.size w w' := by
  have hb := (Below.refl w.heap.size w).alloc (Nat.le_refl _) (.cells #[.int .i64 c, .int .i64 q, .string s] 40)
  by_cases h1 : c = 0
  rotate_left
  · have t1 : (c == 0) = false := by simpa using h1
    rw [show (!nzR (c, q, s)) = false by simp [nzR, h1]]
    clear h1
    go_enter Try.func59, Try.ntmps59
    go_wp2_with fail
    go_ret
    exact ⟨rfl, by first | exact hb | exact Below.refl _ _⟩
  subst h1
  by_cases h2 : q = 0
  rotate_left
  · have t1 : (q == 0) = false := by simpa using h2
    rw [show (!nzR (0, q, s)) = false by simp [nzR, h2]]
    clear h2
    go_enter Try.func59, Try.ntmps59
    go_wp2_with fail
    go_ret
    exact ⟨rfl, by first | exact hb | exact Below.refl _ _⟩
  subst h2
  by_cases h3 : s.size = 0
  rotate_left
  · have t1 := emp_false h3
    rw [show (!nzR (0, 0, s)) = false by simp [nzR, h3]]
    clear h3
    go_enter Try.func59, Try.ntmps59
    go_wp2_with fail
    go_ret
    exact ⟨rfl, by first | exact hb | exact Below.refl _ _⟩
  obtain rfl := nil_size s h3
  go_enter Try.func59, Try.ntmps59
  go_wp2_with fail
  go_ret
  exact ⟨rfl, by first | exact hb | exact Below.refl _ _⟩
set_option maxRecDepth 100000 in
theorem zsig_any (f : Int) (tv : Value) (ts : List ByteArray) (w : World) (hv : StrsAt w tv ts) : Calls Try.prog 56 #[.agg #[.int .i64 f, tv]] w fun e w' => e = .returned (.bool (!nzS (f, ts))) ∧ Below w.heap.size w w' := by
  obtain ⟨a0, cap, rfl, _⟩ := hv
  have hb := (Below.refl w.heap.size w).alloc (Nat.le_refl _) (.cells #[.int .i64 f, .slice a0 ts.length cap] 38)
  by_cases h1 : f = 0
  rotate_left
  · have t1 : (f == 0) = false := by simpa using h1
    rw [show (!nzS (f, ts)) = false by simp [nzS, h1]]
    clear h1
    go_enter Try.func56, Try.ntmps56
    go_wp2_with fail
    go_ret
    exact ⟨rfl, hb⟩
  subst h1
  rw [show (!nzS (0, ts)) = decide (ts.length = 0) by simp [nzS]]
  generalize ts.length = y at *
  by_cases h2 : y = 0
  rotate_left
  · have t1 : ((y : Int) == 0) = false := by simp; omega
    rw [show decide (y = 0) = false by simpa using h2]
    clear h2
    go_enter Try.func56, Try.ntmps56
    go_wp2_with fail
    go_ret
    exact ⟨rfl, hb⟩
  subst h2
  go_enter Try.func56, Try.ntmps56
  go_wp2_with fail
  go_ret
  exact ⟨rfl, hb⟩
set_option maxRecDepth 100000 in
theorem zcert_any (v : Int) (k : ByteArray) (sv : Value) (l : List (Int × List ByteArray)) (w : World) (hv : SigsAt w sv l) : Calls Try.prog 53 #[.agg #[.int .i64 v, .string k, sv]] w fun e w' => e = .returned (.bool (!nzC ((v, k), l))) ∧ Below w.heap.size w w' := by
  obtain ⟨a0, cap, rfl, _⟩ := hv
  have hb := (Below.refl w.heap.size w).alloc (Nat.le_refl _) (.cells #[.int .i64 v, .string k, .slice a0 l.length cap] 32)
  by_cases h1 : v = 0
  rotate_left
  · have t1 : (v == 0) = false := by simpa using h1
    rw [show (!nzC ((v, k), l)) = false by simp [nzC, h1]]
    clear h1
    go_enter Try.func53, Try.ntmps53
    go_wp2_with fail
    go_ret
    exact ⟨rfl, hb⟩
  subst h1
  by_cases h3 : k.size = 0
  rotate_left
  · have t1 := emp_false h3
    rw [show (!nzC ((0, k), l)) = false by simp [nzC, h3]]
    clear h3
    go_enter Try.func53, Try.ntmps53
    go_wp2_with fail
    go_ret
    exact ⟨rfl, hb⟩
  obtain rfl := nil_size k h3
  rw [show (!nzC ((0, ⟨#[]⟩), l)) = decide (l.length = 0) by
    show (!(!(decide ((0 : Int) = 0) && (decide ((⟨#[]⟩ : ByteArray).size = 0) && decide (l.length = 0))))) = _
    rw [show decide ((⟨#[]⟩ : ByteArray).size = 0) = true from rfl]; simp]
  clear h3
  generalize l.length = y at *
  by_cases h2 : y = 0
  rotate_left
  · have t1 : ((y : Int) == 0) = false := by simp; omega
    rw [show decide (y = 0) = false by simpa using h2]
    clear h2
    go_enter Try.func53, Try.ntmps53
    go_wp2_with fail
    go_ret
    exact ⟨rfl, hb⟩
  subst h2
  go_enter Try.func53, Try.ntmps53
  go_wp2_with fail
  go_ret
  exact ⟨rfl, hb⟩
set_option maxRecDepth 100000 in
set_option maxHeartbeats 2000000 in
theorem zblock_any (v p cv : Int) (k : ByteArray) (sv rv : Value) (l : List (Int × List ByteArray)) (m : List (Int × Int × ByteArray)) (w : World) (hv : SigsAt w sv l) (hr : ReqsAt w rv m) :
    Calls Try.prog 50 #[.agg #[.int .i64 v, .int .i64 p, .int .i64 cv, .string k, sv, rv]] w fun e w' => e = .returned (.bool (!nzB (((v, p), ((cv, k), l)), m))) ∧ Below w.heap.size w w' := by
  have hzc : (!nzB (((v, p), ((cv, k), l)), m)) = (decide (v = 0) && (decide (p = 0) && ((!nzC ((cv, k), l)) && decide (m.length = 0)))) := by simp [nzB, nzC, Bool.and_assoc]
  rw [hzc]
  have HZ := Lib.hid (fun wx (hb : Below w.heap.size w wx) => zcert_any cv k sv l wx (hv.later hb))
  obtain ⟨Z, hZ⟩ : ∃ Z, (!nzC ((cv, k), l)) = Z := ⟨_, rfl⟩
  rw [hZ] at HZ ⊢
  clear hZ hzc
  obtain ⟨a0, cap, rfl, _⟩ := hv
  obtain ⟨a1, cap1, rfl, _⟩ := hr
  have K := Lib.hid (show BoxAt w w.heap.size [.int .i64 v, .int .i64 p, .int .i64 cv, .string k, .slice a0 l.length cap, .slice a1 m.length cap1] (w.alloc (.cells #[.int .i64 v, .int .i64 p, .int .i64 cv, .string k, .slice a0 l.length cap, .slice a1 m.length cap1] 35)) from box_mk w [.int .i64 v, .int .i64 p, .int .i64 cv, .string k, .slice a0 l.length cap, .slice a1 m.length cap1] 35)
  by_cases h1 : v = 0
  rotate_left
  · have t1 : (v == 0) = false := by simpa using h1
    rw [show decide (v = 0) = false by simpa using h1, Bool.false_and]
    clear h1
    go_enter Try.func50, Try.ntmps50
    go_wp2_with fail
    go_ret
    exact ⟨rfl, K.out.below⟩
  subst h1
  by_cases h2 : p = 0
  rotate_left
  · have t1 : (p == 0) = false := by simpa using h2
    rw [show decide (p = 0) = false by simpa using h2, Bool.false_and, Bool.and_false]
    clear h2
    go_enter Try.func50, Try.ntmps50
    go_wp2_with fail
    go_ret
    exact ⟨rfl, K.out.below⟩
  subst h2
  rw [show (decide ((0 : Int) = 0) && (decide ((0 : Int) = 0) && (Z && decide (m.length = 0)))) = (Z && decide (m.length = 0)) by simp]
  generalize m.length = y at *
  go_enter Try.func50, Try.ntmps50
  go_wp2_with fail
  generalize w.alloc (.cells #[.int .i64 0, .int .i64 0, .int .i64 cv, .string k, .slice a0 l.length cap, .slice a1 y cap1] 35) = w0 at *
  refine (HZ.out _ K.out.below).mono ?_
  rintro e w1 ⟨rfl, hb1⟩
  have K := Lib.hid (K.out.on hb1)
  have c5 := K.out.cell 5 _ rfl
  clear hb1 HZ
  cases Z
  · go_wp2_with fail
    go_ret
    exact ⟨rfl, K.out.below⟩
  by_cases h2 : y = 0
  rotate_left
  · have t1 : ((y : Int) == 0) = false := by simp; omega
    have H2 := Lib.hid h2
    clear h2
    go_wp2_with fail
    go_ret
    exact ⟨by rw [show decide (y = 0) = false by simpa using H2.out]; rfl, K.out.below⟩
  subst h2
  go_wp2_with fail
  go_ret
  exact ⟨rfl, K.out.below⟩
theorem own_noneor : Own Try.prog 65 := ⟨_, Try.func65, by kernel_rfl, by kernel_rfl⟩
set_option maxRecDepth 100000 in
theorem noneor_call (d m : Nat) (p : Nat) (w : World) (hp : w.cell? ⟨p, 0, none⟩ = some (.int .i64 (m : Int))) :
    Calls Try.prog 65 #[.int .i64 (d : Int), .pointer (some ⟨p, 0, none⟩)] w fun e w' => e = .returned (.bool (decide (d = 0) || decide (d = m))) ∧ w = w' := by
  by_cases h0 : d = 0
  · subst h0
    go_enter Try.func65, Try.ntmps65
    go_wp2_with fail
    go_ret
    exact ⟨rfl, rfl⟩
  have t0 : ((d : Int) == 0) = false := by simp; omega
  rw [show decide (d = 0) = false by simpa using h0, Bool.false_or]
  clear h0
  by_cases h1 : d = m
  · subst h1
    rw [show decide (d = d) = true by simp]
    go_enter Try.func65, Try.ntmps65
    go_wp2_with fail
    go_ret
    exact ⟨rfl, rfl⟩
  have t1 : ((d : Int) == (m : Int)) = false := by simp; omega
  rw [show decide (d = m) = false by simpa using h1]
  clear h1
  go_enter Try.func65, Try.ntmps65
  go_wp2_with fail
  go_ret
  exact ⟨rfl, rfl⟩
set_option maxRecDepth 100000 in
theorem mk_noneor (t m : Nat) (w : World) (ht : t < w.heap.size) :
    Calls Try.prog 48 #[.int .i64 (m : Int)] w (MakesFit Try.prog t w fun d => decide (d = 0) || decide (d = m)) := by
  have HT := Lib.hid ht
  clear ht
  go_enter Try.func48, Try.ntmps48
  go_wp2_with fail
  go_ret
  have b1 := (Below.refl w.heap.size w).alloc (Nat.le_refl _) (.cells #[.int .i64 (m : Int)] 3)
  have := HT.out
  refine ⟨_, _, rfl, b1, fun d wx hk => ⟨_, _, rfl, own_noneor, ?_⟩⟩
  refine (noneor_call d m w.heap.size wx (keep_cell2 (cell_at _ _ _ _ rfl) (by omega) hk)).mono ?_
  rintro e w' ⟨rfl, rfl⟩
  exact ⟨rfl, Below.refl _ _⟩
end Go.Proofs.Ytphlpgdbngbplaa
end
section
open Go Go.RowKit
namespace Go.Proofs.Ytphlpgdbngbplaa
open WW BB
/-- what is read touches no cell from hi on -/
def UpTo {δ : Type} (hi : Nat) (R : RelT δ) : Prop := ∀ d w a b f g, R d w a b f g → ∀ j, hi ≤ j → g j = f j
theorem touch_num (o : Nat) : UpTo (o + 1) (numR o) := fun d w a b f g h j hj => by rw [show g = put f o _ from h, put_ne (by omega)]
theorem touch_str (o : Nat) : UpTo (o + 1) (strR o) := fun d w a b f g h j hj => by rw [show g = put f o _ from h, put_ne (by omega)]
theorem touch_seq {α β : Type} {R1 : RelT α} {R2 : RelT β} {h1 h2 hi : Nat} (t1 : UpTo h1 R1) (t2 : UpTo h2 R2) (l1 : h1 ≤ hi) (l2 : h2 ≤ hi) : UpTo hi (seqR R1 R2) := fun d w a b f g ⟨m, r1, r2⟩ j hj => (t2 _ _ _ _ _ _ r2 j (by omega)).trans (t1 _ _ _ _ _ _ r1 j (by omega))
theorem touch_list {α : Type} {e k o : Nat} {z : Nat → Value} {R : RelT α} : UpTo (o + 1) (listR e k z R o) := fun d w a b f g ⟨sv, xs, h, _⟩ j hj => by rw [h, put_ne (by omega)]
theorem touch_part {α : Type} {hi : Nat} {R : RelT α} (t : UpTo hi R) : UpTo hi (partR R) := fun d w a b f g h j hj => by
  cases d with
  | none => rw [show g = f from h]
  | some d => exact t _ _ _ _ _ _ h j hj
theorem touch_req (o : Nat) : UpTo (o + 3) (reqR o) := fun d w a b f g h j hj => by rw [show g = _ from h, put_ne (by omega), put_ne (by omega), put_ne (by omega)]
theorem touch_sig (o : Nat) : UpTo (o + 2) (sigR o) := touch_seq (touch_num o) touch_list (by omega) (by omega)
theorem touch_cert (o : Nat) : UpTo (o + 3) (certR o) := touch_seq (touch_seq (hi := o + 2) (touch_num o) (touch_str (o + 1)) (by omega) (by omega)) touch_list (by omega) (by omega)
theorem touch_block (o : Nat) : UpTo (o + 6) (blockR o) := touch_seq (touch_seq (hi := o + 5) (touch_seq (hi := o + 2) (touch_num o) (touch_num (o + 1)) (by omega) (by omega)) (touch_cert (o + 2)) (by omega) (by omega)) touch_list (by omega) (by omega)
def preB (f : Nat → Value) : Prop := f 9 = .slice none 0 0 ∧ f 10 = .slice none 0 0
def preC (f : Nat → Value) : Prop := f 13 = .slice none 0 0
def preS (f : Nat → Value) : Prop := f 15 = .slice none 0 0
def preQ (_ : Nat → Value) : Prop := True
def preM (f : Nat → Value) : Prop := f 9 = .slice none 0 0 ∧ f 10 = .slice none 0 0 ∧ f 13 = .slice none 0 0 ∧ f 15 = .slice none 0 0
theorem rd_block (t : Nat) : ∀ w : World, t < w.heap.size → CallsV Try.prog (.func (.func 51) #[] #[]) #[.pointer (some ⟨t, 5, none⟩)] w (MakesR Try.prog t 21 w preB blockI (blockR 5)) := fun w ht => ⟨_, _, rfl, own_block, mk_block t 5 21 w (by omega) ht⟩
theorem rd_cert (t : Nat) : ∀ w : World, t < w.heap.size → CallsV Try.prog (.func (.func 54) #[] #[]) #[.pointer (some ⟨t, 11, none⟩)] w (MakesR Try.prog t 21 w preC certI (certR 11)) := fun w ht => ⟨_, _, rfl, own_cert, mk_cert t 11 21 w (by omega) ht⟩
theorem rd_sig (t : Nat) : ∀ w : World, t < w.heap.size → CallsV Try.prog (.func (.func 57) #[] #[]) #[.pointer (some ⟨t, 14, none⟩)] w (MakesR Try.prog t 21 w preS sigI (sigR 14)) := fun w ht => ⟨_, _, rfl, own_sig, mk_sig t 14 21 w (by omega) ht⟩
theorem own_req : Own Try.prog 60 := ⟨_, Try.func60, by kernel_rfl, by kernel_rfl⟩
theorem rd_request (t : Nat) : ∀ w : World, t < w.heap.size → CallsV Try.prog (.func (.func 60) #[] #[]) #[.pointer (some ⟨t, 16, none⟩)] w (MakesR Try.prog t 21 w preQ reqI (reqR 16)) := fun w ht => ⟨_, _, rfl, own_req, (mk_request t 16 21 w (by omega) ht).mono fun e w' ⟨k, env, h1, h2, h3⟩ => ⟨k, env, h1, h2, (cutr_req h3).weak (fun _ _ => trivial) (fun _ _ _ _ _ _ h => h)⟩⟩
theorem own_zblock : Own Try.prog 50 := ⟨_, Try.func50, by kernel_rfl, by kernel_rfl⟩
theorem own_zcert : Own Try.prog 53 := ⟨_, Try.func53, by kernel_rfl, by kernel_rfl⟩
theorem own_zsig : Own Try.prog 56 := ⟨_, Try.func56, by kernel_rfl, by kernel_rfl⟩
theorem own_zreq : Own Try.prog 59 := ⟨_, Try.func59, by kernel_rfl, by kernel_rfl⟩
theorem zr_block (f : Nat → Value) (d : BlockD) (w : World) (lo hi : Nat) (g : Nat → Value) (_ : preB f) (h : blockR 5 d w lo hi f g) (_ : hi ≤ w.heap.size) : CallsV Try.prog (.func (.func 50) #[] #[]) #[.agg #[g 5, g (5 + 1), g (5 + 2), g (5 + 3), g (5 + 4), g (5 + 5)]] w fun e w' => e = .returned (.bool (!nzB d)) ∧ Below w.heap.size w w' := by
  obtain ⟨sv, rv, hf, hs, hr⟩ := blockR_cells h
  refine ⟨_, _, rfl, own_zblock, ?_⟩
  have := zblock_any d.1.1.1 d.1.1.2 d.1.2.1.1 d.1.2.1.2 sv rv d.1.2.2 d.2 w hs hr
  rw [hf]
  exact this
theorem zr_cert (f : Nat → Value) (d : CertD) (w : World) (lo hi : Nat) (g : Nat → Value) (_ : preC f) (h : certR 11 d w lo hi f g) (_ : hi ≤ w.heap.size) : CallsV Try.prog (.func (.func 53) #[] #[]) #[.agg #[g 11, g (11 + 1), g (11 + 2)]] w fun e w' => e = .returned (.bool (!nzC d)) ∧ Below w.heap.size w w' := by
  obtain ⟨sv, hf, hs⟩ := certR_cells h
  refine ⟨_, _, rfl, own_zcert, ?_⟩
  have := zcert_any d.1.1 d.1.2 sv d.2 w hs
  rw [hf]
  exact this
theorem sigR_cells {o : Nat} {d : Int × List ByteArray} {w : World} {lo hi : Nat} {f f' : Nat → Value} (h : sigR o d w lo hi f f') : ∃ tv, f' = put (put f o (.int .i64 d.1)) (o + 1) tv ∧ StrsAt w tv d.2 := by
  obtain ⟨g, h1, tv, xs, h2, h3⟩ := h
  exact ⟨tv, by rw [h2, show g = put f o _ from h1], strs_at h3⟩
theorem zr_sig (f : Nat → Value) (d : Int × List ByteArray) (w : World) (lo hi : Nat) (g : Nat → Value) (_ : preS f) (h : sigR 14 d w lo hi f g) (_ : hi ≤ w.heap.size) : CallsV Try.prog (.func (.func 56) #[] #[]) #[.agg #[g 14, g (14 + 1)]] w fun e w' => e = .returned (.bool (!nzS d)) ∧ Below w.heap.size w w' := by
  obtain ⟨tv, hf, hs⟩ := sigR_cells h
  refine ⟨_, _, rfl, own_zsig, ?_⟩
  have := zsig_any d.1 tv d.2 w hs
  rw [hf]
  exact this
theorem zr_request (f : Nat → Value) (d : Int × Int × ByteArray) (w : World) (lo hi : Nat) (g : Nat → Value) (_ : preQ f) (h : reqR 16 d w lo hi f g) (_ : hi ≤ w.heap.size) : CallsV Try.prog (.func (.func 59) #[] #[]) #[.agg #[g 16, g (16 + 1), g (16 + 2)]] w fun e w' => e = .returned (.bool (!nzR d)) ∧ Below w.heap.size w w' := by
  refine ⟨_, _, rfl, own_zreq, ?_⟩
  have := zreq_any d.1 d.2.1 d.2.2 w
  rw [show g = _ from h]
  exact this
/-- a message, from cell 0 on -/
def msgR : RelT MsgD := (seqR (seqR (seqR (seqR (seqR (seqR (seqR (seqR (seqR (seqR (numR 0) (numR 1)) (numR 2)) (numR 3)) (strR 4)) (partR (blockR 5))) (partR (certR 11))) (partR (sigR 14))) (partR (reqR 16))) (numR 19)) (strR 20))
theorem sound_msg : SoundR msgR := (((((((((((sound_num 0).seq (sound_num 1)).seq (sound_num 2)).seq (sound_num 3)).seq (sound_str 4)).seq (sound_part (sound_block 5))).seq (sound_part (sound_cert 11))).seq (sound_part (sound_sig 14))).seq (sound_part (sound_req 16))).seq (sound_num 19)).seq (sound_str 20))
set_option maxRecDepth 100000 in
set_option maxHeartbeats 16000000 in
theorem mk_msg (t : Nat) (w : World) (ht : t < w.heap.size) :
    Calls Try.prog 42 #[.pointer (some ⟨t, 0, none⟩)] w (MakesR Try.prog t 21 w preM msgI msgR) := by
  have HT := Lib.hid ht
  clear ht
  go_enter Try.func42, Try.ntmps42
  go_wp2_with fail
  have z0 : t < w.drew.heap.size := HT.out
  go_region_held3 (fun w' => t < w'.heap.size) (first | assumption | exact hk | (simp; omega))
    (first
      | (go_at_call 46; (fail_if_success have hx := HV0); refine (mk_num t _ 21 _ _ _ (by omega) (by assumption)).mono ?_; rintro e w0 ⟨k0, env0, rfl, hb0, hv0⟩; have hk := Nat.lt_of_lt_of_le (by assumption : t < _) hb0.size; have HB0 := Lib.hid hb0; have HV0 := Lib.hid hv0; clear hb0 hv0)
      | (go_at_call 46; (fail_if_success have hx := HV1); refine (mk_num t _ 21 _ _ _ (by omega) (by assumption)).mono ?_; rintro e w1 ⟨k1, env1, rfl, hb1, hv1⟩; have hk := Nat.lt_of_lt_of_le (by assumption : t < _) hb1.size; have HB1 := Lib.hid hb1; have HV1 := Lib.hid hv1; clear hb1 hv1)
      | (go_at_call 46; (fail_if_success have hx := HV2); refine (mk_num t _ 21 _ _ _ (by omega) (by assumption)).mono ?_; rintro e w2 ⟨k2, env2, rfl, hb2, hv2⟩; have hk := Nat.lt_of_lt_of_le (by assumption : t < _) hb2.size; have HB2 := Lib.hid hb2; have HV2 := Lib.hid hv2; clear hb2 hv2)
      | (go_at_call 46; (fail_if_success have hx := HV3); refine (mk_num t _ 21 _ _ _ (by omega) (by assumption)).mono ?_; rintro e w3 ⟨k3, env3, rfl, hb3, hv3⟩; have hk := Nat.lt_of_lt_of_le (by assumption : t < _) hb3.size; have HB3 := Lib.hid hb3; have HV3 := Lib.hid hv3; clear hb3 hv3)
      | (go_at_call 48; (fail_if_success have hx := HV4a); refine (mk_noneor t 32 _ (by assumption)).mono ?_; rintro e w4a ⟨k4a, env4a, rfl, hb4a, hv4a⟩; have hk := Nat.lt_of_lt_of_le (by assumption : t < _) hb4a.size; have HB4a := Lib.hid hb4a; have HV4a := Lib.hid hv4a; clear hb4a hv4a)
      | (go_at_call 47; (fail_if_success have hx := HV4); refine (mk_text t _ 21 _ _ _ _ (by omega) (by assumption) HV4a.out).mono ?_; rintro e w4 ⟨k4, env4, rfl, hb4, hv4⟩; have hk := Nat.lt_of_lt_of_le (by assumption : t < _) hb4.size; have HB4 := Lib.hid hb4; have HV4 := Lib.hid hv4; clear hb4 hv4)
      | (go_at_call 49; refine (mk_partB nzB blockI (blockR 5) preB t 5 21 _ _ _ _ _ (by omega) (by assumption) (rd_block t) zr_block (sound_block 5)).mono ?_; rintro e w5 ⟨k5, env5, rfl, hb5, hv5⟩; have hk := Nat.lt_of_lt_of_le (by assumption : t < _) hb5.size; have HB5 := Lib.hid hb5; have HV5 := Lib.hid hv5; clear hb5 hv5)
      | (go_at_call 52; refine (mk_partC nzC certI (certR 11) preC t 11 21 _ _ _ _ _ (by omega) (by assumption) (rd_cert t) zr_cert (sound_cert 11)).mono ?_; rintro e w6 ⟨k6, env6, rfl, hb6, hv6⟩; have hk := Nat.lt_of_lt_of_le (by assumption : t < _) hb6.size; have HB6 := Lib.hid hb6; have HV6 := Lib.hid hv6; clear hb6 hv6)
      | (go_at_call 55; refine (mk_partS nzS sigI (sigR 14) preS t 14 21 _ _ _ _ _ (by omega) (by assumption) (rd_sig t) zr_sig (sound_sig 14)).mono ?_; rintro e w7 ⟨k7, env7, rfl, hb7, hv7⟩; have hk := Nat.lt_of_lt_of_le (by assumption : t < _) hb7.size; have HB7 := Lib.hid hb7; have HV7 := Lib.hid hv7; clear hb7 hv7)
      | (go_at_call 58; refine (mk_partQ nzR reqI (reqR 16) preQ t 16 21 _ _ _ _ _ (by omega) (by assumption) (rd_request t) zr_request (sound_req 16)).mono ?_; rintro e w8 ⟨k8, env8, rfl, hb8, hv8⟩; have hk := Nat.lt_of_lt_of_le (by assumption : t < _) hb8.size; have HB8 := Lib.hid hb8; have HV8 := Lib.hid hv8; clear hb8 hv8)
      | (go_at_call 46; refine (mk_num t _ 21 _ _ _ (by omega) (by assumption)).mono ?_; rintro e w9 ⟨k9, env9, rfl, hb9, hv9⟩; have hk := Nat.lt_of_lt_of_le (by assumption : t < _) hb9.size; have HB9 := Lib.hid hb9; have HV9 := Lib.hid hv9; clear hb9 hv9)
      | (go_at_call 48; refine (mk_noneor t 16 _ (by assumption)).mono ?_; rintro e w10a ⟨k10a, env10a, rfl, hb10a, hv10a⟩; have hk := Nat.lt_of_lt_of_le (by assumption : t < _) hb10a.size; have HB10a := Lib.hid hb10a; have HV10a := Lib.hid hv10a; clear hb10a hv10a)
      | (go_at_call 47; refine (mk_text t _ 21 _ _ _ _ (by omega) (by assumption) HV10a.out).mono ?_; rintro e w10 ⟨k10, env10, rfl, hb10, hv10⟩; have hk := Nat.lt_of_lt_of_le (by assumption : t < _) hb10.size; have HB10 := Lib.hid hb10; have HV10 := Lib.hid hv10; clear hb10 hv10)
      | (go_at_call 45; refine (mk_order _ _ _ _).mono ?_; rintro e wz ⟨rfl, hbz, hvz⟩; have hk := Nat.lt_of_lt_of_le (by assumption : t < _) hbz.size; have HBz := Lib.hid hbz; have HVz := Lib.hid hvz; clear hbz hvz))
  all_goals
    obtain ⟨W4, hW4⟩ : ∃ W4, W4 = w10.alloc (.cells #[.func (.func k0) #[] env0, .func (.func k1) #[] env1, .func (.func k2) #[] env2, .func (.func k3) #[] env3, .func (.func k4) #[] env4, .func (.func k5) #[] env5, .func (.func k6) #[] env6, .func (.func k7) #[] env7, .func (.func k8) #[] env8, .func (.func k9) #[] env9, .func (.func k10) #[] env10] 87) := ⟨_, rfl⟩
    rw [← hW4] at HBz HVz
    have z4 : W4.heap.size = w10.heap.size + 1 := by rw [hW4]; simp
    have b4 : Below w10.heap.size w10 W4 := by rw [hW4]; exact (Below.refl _ _).alloc (Nat.le_refl _) _
    have hrow : InRow w10.heap.size [.func (.func k0) #[] env0, .func (.func k1) #[] env1, .func (.func k2) #[] env2, .func (.func k3) #[] env3, .func (.func k4) #[] env4, .func (.func k5) #[] env5, .func (.func k6) #[] env6, .func (.func k7) #[] env7, .func (.func k8) #[] env8, .func (.func k9) #[] env9, .func (.func k10) #[] env10] W4 := by
      rw [hW4]
      intro i hi
      match i, hi with
      | 0, _ => exact cell_new _ _ _ _ _ rfl
      | 1, _ => exact cell_new _ _ _ _ _ rfl
      | 2, _ => exact cell_new _ _ _ _ _ rfl
      | 3, _ => exact cell_new _ _ _ _ _ rfl
      | 4, _ => exact cell_new _ _ _ _ _ rfl
      | 5, _ => exact cell_new _ _ _ _ _ rfl
      | 6, _ => exact cell_new _ _ _ _ _ rfl
      | 7, _ => exact cell_new _ _ _ _ _ rfl
      | 8, _ => exact cell_new _ _ _ _ _ rfl
      | 9, _ => exact cell_new _ _ _ _ _ rfl
      | 10, _ => exact cell_new _ _ _ _ _ rfl
    have t10 : t < w10.heap.size := Nat.lt_of_lt_of_le HT.out (Nat.le_trans HB0.out.size (Nat.le_trans HB1.out.size (Nat.le_trans HB2.out.size (Nat.le_trans HB3.out.size (Nat.le_trans HB4a.out.size (Nat.le_trans HB4.out.size (Nat.le_trans HB5.out.size (Nat.le_trans HB6.out.size (Nat.le_trans HB7.out.size (Nat.le_trans HB8.out.size (Nat.le_trans HB9.out.size (Nat.le_trans HB10a.out.size HB10.out.size))))))))))))
    have qz : Keep t W4 wz := keep_of_below HBz.out (Nat.le_refl _) t
    have q10 : Keep t w10 wz := (keep_of_below b4 (Nat.le_refl _) t).trans qz
    have q10a : Keep t w10a wz := (keep_of_below HB10.out (Nat.le_refl _) t).trans q10
    have q9 : Keep t w9 wz := (keep_of_below HB10a.out (Nat.le_refl _) t).trans q10a
    have q8 : Keep t w8 wz := (keep_of_below HB9.out (Nat.le_refl _) t).trans q9
    have q7 : Keep t w7 wz := (keep_of_below HB8.out (Nat.le_refl _) t).trans q8
    have q6 : Keep t w6 wz := (keep_of_below HB7.out (Nat.le_refl _) t).trans q7
    have q5 : Keep t w5 wz := (keep_of_below HB6.out (Nat.le_refl _) t).trans q6
    have q4 : Keep t w4 wz := (keep_of_below HB5.out (Nat.le_refl _) t).trans q5
    have q4a : Keep t w4a wz := (keep_of_below HB4.out (Nat.le_refl _) t).trans q4
    have q3 : Keep t w3 wz := (keep_of_below HB4a.out (Nat.le_refl _) t).trans q4a
    have q2 : Keep t w2 wz := (keep_of_below HB3.out (Nat.le_refl _) t).trans q3
    have q1 : Keep t w1 wz := (keep_of_below HB2.out (Nat.le_refl _) t).trans q2
    have q0 : Keep t w0 wz := (keep_of_below HB1.out (Nat.le_refl _) t).trans q1
    have ord0 : OrdR Try.prog t 21 [.func (.func k0) #[] env0] wz preM (numI 1 7) (numR 0) := OrdR.one ((cutr_num (HV0.out.later q0)).weak (fun _ _ => trivial) (fun _ _ _ _ _ _ h => h))
    have ord1 : OrdR Try.prog t 21 [.func (.func k0) #[] env0, .func (.func k1) #[] env1] wz preM (seqSp (numI 1 7) (numI 0 20)) (seqR (numR 0) (numR 1)) := by
      exact ord0.app (cutr_num (HV1.out.later q1)) (sound_num 0) (sound_num 1) (fun b r x h => (codec_num 1 7 (by omega) (by omega)).size h) (fun _ _ _ _ _ _ _ _ => trivial)
    have ord2 : OrdR Try.prog t 21 [.func (.func k0) #[] env0, .func (.func k1) #[] env1, .func (.func k2) #[] env2] wz preM (seqSp (seqSp (numI 1 7) (numI 0 20)) (numI 0 20)) (seqR (seqR (numR 0) (numR 1)) (numR 2)) := by
      exact ord1.app (cutr_num (HV2.out.later q2)) ((sound_num 0).seq (sound_num 1)) (sound_num 2) (fun b r x h => ((codec_num 1 7 (by omega) (by omega)).seq (codec_num 0 20 (by omega) (by omega))).size h) (fun _ _ _ _ _ _ _ _ => trivial)
    have ord3 : OrdR Try.prog t 21 [.func (.func k0) #[] env0, .func (.func k1) #[] env1, .func (.func k2) #[] env2, .func (.func k3) #[] env3] wz preM (seqSp (seqSp (seqSp (numI 1 7) (numI 0 20)) (numI 0 20)) (numI 0 1000000)) (seqR (seqR (seqR (numR 0) (numR 1)) (numR 2)) (numR 3)) := by
      exact ord2.app (cutr_num (HV3.out.later q3)) (((sound_num 0).seq (sound_num 1)).seq (sound_num 2)) (sound_num 3) (fun b r x h => (((codec_num 1 7 (by omega) (by omega)).seq (codec_num 0 20 (by omega) (by omega))).seq (codec_num 0 20 (by omega) (by omega))).size h) (fun _ _ _ _ _ _ _ _ => trivial)
    have ord4 : OrdR Try.prog t 21 [.func (.func k0) #[] env0, .func (.func k1) #[] env1, .func (.func k2) #[] env2, .func (.func k3) #[] env3, .func (.func k4) #[] env4] wz preM (seqSp (seqSp (seqSp (seqSp (numI 1 7) (numI 0 20)) (numI 0 20)) (numI 0 1000000)) (textSp fitsH)) (seqR (seqR (seqR (seqR (numR 0) (numR 1)) (numR 2)) (numR 3)) (strR 4)) := by
      exact ord3.app (cutr_str (HV4.out.later q4)) ((((sound_num 0).seq (sound_num 1)).seq (sound_num 2)).seq (sound_num 3)) (sound_str 4) (fun b r x h => ((((codec_num 1 7 (by omega) (by omega)).seq (codec_num 0 20 (by omega) (by omega))).seq (codec_num 0 20 (by omega) (by omega))).seq (codec_num 0 1000000 (by omega) (by omega))).size h) (fun _ _ _ _ _ _ _ _ => trivial)
    have ord5 : OrdR Try.prog t 21 [.func (.func k0) #[] env0, .func (.func k1) #[] env1, .func (.func k2) #[] env2, .func (.func k3) #[] env3, .func (.func k4) #[] env4, .func (.func k5) #[] env5] wz preM (seqSp (seqSp (seqSp (seqSp (seqSp (numI 1 7) (numI 0 20)) (numI 0 20)) (numI 0 1000000)) (textSp fitsH)) (partSp nzB blockI)) (seqR (seqR (seqR (seqR (seqR (numR 0) (numR 1)) (numR 2)) (numR 3)) (strR 4)) (partR (blockR 5))) := by
      have T := (touch_seq (hi := 5) (touch_seq (hi := 4) (touch_seq (hi := 3) (touch_seq (hi := 2) (touch_num 0) (touch_num 1) (by omega) (by omega)) (touch_num 2) (by omega) (by omega)) (touch_num 3) (by omega) (by omega)) (touch_str 4) (by omega) (by omega))
      exact ord4.app (HV5.out.later q5) (((((sound_num 0).seq (sound_num 1)).seq (sound_num 2)).seq (sound_num 3)).seq (sound_str 4)) (sound_part (sound_block 5)) (fun b r x h => (((((codec_num 1 7 (by omega) (by omega)).seq (codec_num 0 20 (by omega) (by omega))).seq (codec_num 0 20 (by omega) (by omega))).seq (codec_num 0 1000000 (by omega) (by omega))).seq (codec_text fitsH)).size h) (fun d w lo hi f g hp hg => ⟨(T d w lo hi f g hg 9 (by omega)).trans hp.1, (T d w lo hi f g hg 10 (by omega)).trans hp.2.1⟩)
    have ord6 : OrdR Try.prog t 21 [.func (.func k0) #[] env0, .func (.func k1) #[] env1, .func (.func k2) #[] env2, .func (.func k3) #[] env3, .func (.func k4) #[] env4, .func (.func k5) #[] env5, .func (.func k6) #[] env6] wz preM (seqSp (seqSp (seqSp (seqSp (seqSp (seqSp (numI 1 7) (numI 0 20)) (numI 0 20)) (numI 0 1000000)) (textSp fitsH)) (partSp nzB blockI)) (partSp nzC certI)) (seqR (seqR (seqR (seqR (seqR (seqR (numR 0) (numR 1)) (numR 2)) (numR 3)) (strR 4)) (partR (blockR 5))) (partR (certR 11))) := by
      have T := (touch_seq (hi := 11) (touch_seq (hi := 5) (touch_seq (hi := 4) (touch_seq (hi := 3) (touch_seq (hi := 2) (touch_num 0) (touch_num 1) (by omega) (by omega)) (touch_num 2) (by omega) (by omega)) (touch_num 3) (by omega) (by omega)) (touch_str 4) (by omega) (by omega)) (touch_part (touch_block 5)) (by omega) (by omega))
      exact ord5.app (HV6.out.later q6) ((((((sound_num 0).seq (sound_num 1)).seq (sound_num 2)).seq (sound_num 3)).seq (sound_str 4)).seq (sound_part (sound_block 5))) (sound_part (sound_cert 11)) (fun b r x h => ((((((codec_num 1 7 (by omega) (by omega)).seq (codec_num 0 20 (by omega) (by omega))).seq (codec_num 0 20 (by omega) (by omega))).seq (codec_num 0 1000000 (by omega) (by omega))).seq (codec_text fitsH)).seq (codec_block.part nzB)).size h) (fun d w lo hi f g hp hg => (T d w lo hi f g hg 13 (by omega)).trans hp.2.2.1)
    have ord7 : OrdR Try.prog t 21 [.func (.func k0) #[] env0, .func (.func k1) #[] env1, .func (.func k2) #[] env2, .func (.func k3) #[] env3, .func (.func k4) #[] env4, .func (.func k5) #[] env5, .func (.func k6) #[] env6, .func (.func k7) #[] env7] wz preM (seqSp (seqSp (seqSp (seqSp (seqSp (seqSp (seqSp (numI 1 7) (numI 0 20)) (numI 0 20)) (numI 0 1000000)) (textSp fitsH)) (partSp nzB blockI)) (partSp nzC certI)) (partSp nzS sigI)) (seqR (seqR (seqR (seqR (seqR (seqR (seqR (numR 0) (numR 1)) (numR 2)) (numR 3)) (strR 4)) (partR (blockR 5))) (partR (certR 11))) (partR (sigR 14))) := by
      have T := (touch_seq (hi := 14) (touch_seq (hi := 11) (touch_seq (hi := 5) (touch_seq (hi := 4) (touch_seq (hi := 3) (touch_seq (hi := 2) (touch_num 0) (touch_num 1) (by omega) (by omega)) (touch_num 2) (by omega) (by omega)) (touch_num 3) (by omega) (by omega)) (touch_str 4) (by omega) (by omega)) (touch_part (touch_block 5)) (by omega) (by omega)) (touch_part (touch_cert 11)) (by omega) (by omega))
      exact ord6.app (HV7.out.later q7) (((((((sound_num 0).seq (sound_num 1)).seq (sound_num 2)).seq (sound_num 3)).seq (sound_str 4)).seq (sound_part (sound_block 5))).seq (sound_part (sound_cert 11))) (sound_part (sound_sig 14)) (fun b r x h => (((((((codec_num 1 7 (by omega) (by omega)).seq (codec_num 0 20 (by omega) (by omega))).seq (codec_num 0 20 (by omega) (by omega))).seq (codec_num 0 1000000 (by omega) (by omega))).seq (codec_text fitsH)).seq (codec_block.part nzB)).seq (codec_cert.part nzC)).size h) (fun d w lo hi f g hp hg => (T d w lo hi f g hg 15 (by omega)).trans hp.2.2.2)
    have ord8 : OrdR Try.prog t 21 [.func (.func k0) #[] env0, .func (.func k1) #[] env1, .func (.func k2) #[] env2, .func (.func k3) #[] env3, .func (.func k4) #[] env4, .func (.func k5) #[] env5, .func (.func k6) #[] env6, .func (.func k7) #[] env7, .func (.func k8) #[] env8] wz preM (seqSp (seqSp (seqSp (seqSp (seqSp (seqSp (seqSp (seqSp (numI 1 7) (numI 0 20)) (numI 0 20)) (numI 0 1000000)) (textSp fitsH)) (partSp nzB blockI)) (partSp nzC certI)) (partSp nzS sigI)) (partSp nzR reqI)) (seqR (seqR (seqR (seqR (seqR (seqR (seqR (seqR (numR 0) (numR 1)) (numR 2)) (numR 3)) (strR 4)) (partR (blockR 5))) (partR (certR 11))) (partR (sigR 14))) (partR (reqR 16))) := by
      exact ord7.app (HV8.out.later q8) ((((((((sound_num 0).seq (sound_num 1)).seq (sound_num 2)).seq (sound_num 3)).seq (sound_str 4)).seq (sound_part (sound_block 5))).seq (sound_part (sound_cert 11))).seq (sound_part (sound_sig 14))) (sound_part (sound_req 16)) (fun b r x h => ((((((((codec_num 1 7 (by omega) (by omega)).seq (codec_num 0 20 (by omega) (by omega))).seq (codec_num 0 20 (by omega) (by omega))).seq (codec_num 0 1000000 (by omega) (by omega))).seq (codec_text fitsH)).seq (codec_block.part nzB)).seq (codec_cert.part nzC)).seq (codec_sig.part nzS)).size h) (fun _ _ _ _ _ _ _ _ => trivial)
    have ord9 : OrdR Try.prog t 21 [.func (.func k0) #[] env0, .func (.func k1) #[] env1, .func (.func k2) #[] env2, .func (.func k3) #[] env3, .func (.func k4) #[] env4, .func (.func k5) #[] env5, .func (.func k6) #[] env6, .func (.func k7) #[] env7, .func (.func k8) #[] env8, .func (.func k9) #[] env9] wz preM (seqSp (seqSp (seqSp (seqSp (seqSp (seqSp (seqSp (seqSp (seqSp (numI 1 7) (numI 0 20)) (numI 0 20)) (numI 0 1000000)) (textSp fitsH)) (partSp nzB blockI)) (partSp nzC certI)) (partSp nzS sigI)) (partSp nzR reqI)) (numI 0 2147483647)) (seqR (seqR (seqR (seqR (seqR (seqR (seqR (seqR (seqR (numR 0) (numR 1)) (numR 2)) (numR 3)) (strR 4)) (partR (blockR 5))) (partR (certR 11))) (partR (sigR 14))) (partR (reqR 16))) (numR 19)) := by
      exact ord8.app (cutr_num (HV9.out.later q9)) (((((((((sound_num 0).seq (sound_num 1)).seq (sound_num 2)).seq (sound_num 3)).seq (sound_str 4)).seq (sound_part (sound_block 5))).seq (sound_part (sound_cert 11))).seq (sound_part (sound_sig 14))).seq (sound_part (sound_req 16))) (sound_num 19) (fun b r x h => (((((((((codec_num 1 7 (by omega) (by omega)).seq (codec_num 0 20 (by omega) (by omega))).seq (codec_num 0 20 (by omega) (by omega))).seq (codec_num 0 1000000 (by omega) (by omega))).seq (codec_text fitsH)).seq (codec_block.part nzB)).seq (codec_cert.part nzC)).seq (codec_sig.part nzS)).seq (codec_req.part nzR)).size h) (fun _ _ _ _ _ _ _ _ => trivial)
    have ord10 : OrdR Try.prog t 21 [.func (.func k0) #[] env0, .func (.func k1) #[] env1, .func (.func k2) #[] env2, .func (.func k3) #[] env3, .func (.func k4) #[] env4, .func (.func k5) #[] env5, .func (.func k6) #[] env6, .func (.func k7) #[] env7, .func (.func k8) #[] env8, .func (.func k9) #[] env9, .func (.func k10) #[] env10] wz preM (seqSp (seqSp (seqSp (seqSp (seqSp (seqSp (seqSp (seqSp (seqSp (seqSp (numI 1 7) (numI 0 20)) (numI 0 20)) (numI 0 1000000)) (textSp fitsH)) (partSp nzB blockI)) (partSp nzC certI)) (partSp nzS sigI)) (partSp nzR reqI)) (numI 0 2147483647)) (textSp fitsT)) (seqR (seqR (seqR (seqR (seqR (seqR (seqR (seqR (seqR (seqR (numR 0) (numR 1)) (numR 2)) (numR 3)) (strR 4)) (partR (blockR 5))) (partR (certR 11))) (partR (sigR 14))) (partR (reqR 16))) (numR 19)) (strR 20)) := by
      exact ord9.app (cutr_str (HV10.out.later q10)) ((((((((((sound_num 0).seq (sound_num 1)).seq (sound_num 2)).seq (sound_num 3)).seq (sound_str 4)).seq (sound_part (sound_block 5))).seq (sound_part (sound_cert 11))).seq (sound_part (sound_sig 14))).seq (sound_part (sound_req 16))).seq (sound_num 19)) (sound_str 20) (fun b r x h => ((((((((((codec_num 1 7 (by omega) (by omega)).seq (codec_num 0 20 (by omega) (by omega))).seq (codec_num 0 20 (by omega) (by omega))).seq (codec_num 0 1000000 (by omega) (by omega))).seq (codec_text fitsH)).seq (codec_block.part nzB)).seq (codec_cert.part nzC)).seq (codec_sig.part nzS)).seq (codec_req.part nzR)).seq (codec_num 0 2147483647 (by omega) (by omega))).size h) (fun _ _ _ _ _ _ _ _ => trivial)
    have hto := Lib.hid (order_cutR (cap := 11) (bx := W4.heap.size) ord10 (InRow_keep hrow (by omega) (by omega) qz) HVz.out (by omega) (by have := HBz.out.size; omega) (by omega) (by simp))
    have hbel : Hid (Below w.heap.size w wz) := by
      have e0 : Below w.heap.size w w.drew := (Below.refl _ _).drew
      have f0 := e0.trans HB0.out
      have f1 := f0.trans (HB1.out.mono f0.size)
      have f2 := f1.trans (HB2.out.mono f1.size)
      have f3 := f2.trans (HB3.out.mono f2.size)
      have f4a := f3.trans (HB4a.out.mono f3.size)
      have f4 := f4a.trans (HB4.out.mono f4a.size)
      have f5 := f4.trans (HB5.out.mono f4.size)
      have f6 := f5.trans (HB6.out.mono f5.size)
      have f7 := f6.trans (HB7.out.mono f6.size)
      have f8 := f7.trans (HB8.out.mono f7.size)
      have f9 := f8.trans (HB9.out.mono f8.size)
      have f10a := f9.trans (HB10a.out.mono f9.size)
      have f10 := f10a.trans (HB10.out.mono f10a.size)
      have fy := f10.trans (b4.mono f10.size)
      exact Lib.hid (fy.trans (HBz.out.mono fy.size))
    rw [z4] at hto
    clear hrow hW4 b4 ord0 ord1 ord2 ord3 ord4 ord5 ord6 ord7 ord8 ord9 ord10
    go_wp2_with fail
    go_ret
    exact ⟨_, _, rfl, hbel.out, hto.out⟩
end Go.Proofs.Ytphlpgdbngbplaa
end
section
open Go Go.RowKit
namespace WW
/-- a zero message's cells -/
def zM : Nat → Value := fun i => if i = 4 then .string ⟨#[]⟩ else if i = 8 then .string ⟨#[]⟩ else if i = 9 then .slice none 0 0 else if i = 10 then .slice none 0 0 else if i = 12 then .string ⟨#[]⟩ else if i = 13 then .slice none 0 0 else if i = 15 then .slice none 0 0 else if i = 18 then .string ⟨#[]⟩ else if i = 20 then .string ⟨#[]⟩ else .int .i64 0
end WW
namespace Go.Proofs.Ytphlpgdbngbplaa
open WW BB
/-- what is read touches no cell below lo -/
def DnTo {δ : Type} (lo : Nat) (R : RelT δ) : Prop := ∀ d w a b f g, R d w a b f g → ∀ j, j < lo → g j = f j
theorem dn_num (o : Nat) : DnTo o (numR o) := fun d w a b f g h j hj => by rw [show g = put f o _ from h, put_ne (by omega)]
theorem dn_str (o : Nat) : DnTo o (strR o) := fun d w a b f g h j hj => by rw [show g = put f o _ from h, put_ne (by omega)]
theorem dn_list {α : Type} {e k o : Nat} {z : Nat → Value} {R : RelT α} : DnTo o (listR e k z R o) := fun d w a b f g ⟨sv, xs, h, _⟩ j hj => by rw [h, put_ne (by omega)]
theorem dn_part {α : Type} {lo : Nat} {R : RelT α} (t : DnTo lo R) : DnTo lo (partR R) := fun d w a b f g h j hj => by
  cases d with
  | none => rw [show g = f from h]
  | some d => exact t _ _ _ _ _ _ h j hj
theorem dn_seq {α β : Type} {R1 : RelT α} {R2 : RelT β} {l1 l2 lo : Nat} (t1 : DnTo l1 R1) (t2 : DnTo l2 R2) (h1 : lo ≤ l1) (h2 : lo ≤ l2) : DnTo lo (seqR R1 R2) := fun d w a b f g ⟨m, r1, r2⟩ j hj => (t2 _ _ _ _ _ _ r2 j (by omega)).trans (t1 _ _ _ _ _ _ r1 j (by omega))
theorem dn_req (o : Nat) : DnTo o (reqR o) := fun d w a b f g h j hj => by rw [show g = _ from h, put_ne (by omega), put_ne (by omega), put_ne (by omega)]
theorem dn_sig (o : Nat) : DnTo o (sigR o) := dn_seq (dn_num o) dn_list (by omega) (by omega)
theorem dn_cert (o : Nat) : DnTo o (certR o) := dn_seq (dn_seq (lo := o) (dn_num o) (dn_str (o + 1)) (by omega) (by omega)) dn_list (by omega) (by omega)
theorem dn_block (o : Nat) : DnTo o (blockR o) := dn_seq (dn_seq (lo := o) (dn_seq (lo := o) (dn_num o) (dn_num (o + 1)) (by omega) (by omega)) (dn_cert (o + 2)) (by omega) (by omega)) dn_list (by omega) (by omega)
/-- nothing -/
def noB : BlockD := (((0, 0), ((0, ⟨#[]⟩), [])), [])
def noC : CertD := ((0, ⟨#[]⟩), [])
def noS : Int × List ByteArray := (0, [])
def noR : Int × Int × ByteArray := (0, 0, ⟨#[]⟩)
theorem sigs_nil (w : World) : SigsAt w (.slice none 0 0) [] := ⟨none, 0, rfl, Or.inl rfl⟩
theorem reqs_nil (w : World) : ReqsAt w (.slice none 0 0) [] := ⟨none, 0, rfl, Or.inl rfl⟩
theorem strs_nil (w : World) : StrsAt w (.slice none 0 0) [] := ⟨none, 0, rfl, Or.inl rfl⟩
/-- the cells of a message, from what its parts are -/
structure MsgAt (w : World) (f : Nat → Value) (k fr dst v : Int) (h : ByteArray) (x : BlockD) (c : CertD) (s : Int × List ByteArray) (r : Int × Int × ByteArray) (ix : Int) (tg : ByteArray) (s9 r10 s13 t15 : Value) : Prop where
  y0 : f 0 = .int .i64 k
  y1 : f 1 = .int .i64 fr
  y2 : f 2 = .int .i64 dst
  y3 : f 3 = .int .i64 v
  y4 : f 4 = .string h
  y5 : f 5 = .int .i64 x.1.1.1
  y6 : f 6 = .int .i64 x.1.1.2
  y7 : f 7 = .int .i64 x.1.2.1.1
  y8 : f 8 = .string x.1.2.1.2
  y9 : f 9 = s9
  y10 : f 10 = r10
  y11 : f 11 = .int .i64 c.1.1
  y12 : f 12 = .string c.1.2
  y13 : f 13 = s13
  y14 : f 14 = .int .i64 s.1
  y15 : f 15 = t15
  y16 : f 16 = .int .i64 r.1
  y17 : f 17 = .int .i64 r.2.1
  y18 : f 18 = .string r.2.2
  y19 : f 19 = .int .i64 ix
  y20 : f 20 = .string tg
  h9 : SigsAt w s9 x.1.2.2
  h10 : ReqsAt w r10 x.2
  h13 : SigsAt w s13 c.2
  h15 : StrsAt w t15 s.2
theorem block_part {d : Option BlockD} {w : World} {lo hi : Nat} {f g : Nat → Value} (h : partR (blockR 5) d w lo hi f g) (hz : ∀ i, 5 ≤ i → i < 11 → f i = zM i) : ∃ s9 r10, g 5 = .int .i64 (d.getD noB).1.1.1 ∧ g 6 = .int .i64 (d.getD noB).1.1.2 ∧ g 7 = .int .i64 (d.getD noB).1.2.1.1 ∧ g 8 = .string (d.getD noB).1.2.1.2 ∧ g 9 = s9 ∧ g 10 = r10 ∧ SigsAt w s9 (d.getD noB).1.2.2 ∧ ReqsAt w r10 (d.getD noB).2 := by
  rcases d with _ | d
  · have h : g = f := h
    subst h
    exact ⟨_, _, hz 5 (by omega) (by omega), hz 6 (by omega) (by omega), hz 7 (by omega) (by omega), hz 8 (by omega) (by omega), hz 9 (by omega) (by omega), hz 10 (by omega) (by omega), sigs_nil w, reqs_nil w⟩
  · obtain ⟨sv, rv, hf, hs, hr⟩ := blockR_cells (show blockR 5 d w lo hi f g from h)
    subst hf
    exact ⟨sv, rv, rfl, rfl, rfl, rfl, rfl, rfl, hs, hr⟩
theorem cert_part {d : Option CertD} {w : World} {lo hi : Nat} {f g : Nat → Value} (h : partR (certR 11) d w lo hi f g) (hz : ∀ i, 11 ≤ i → i < 14 → f i = zM i) : ∃ s13, g 11 = .int .i64 (d.getD noC).1.1 ∧ g 12 = .string (d.getD noC).1.2 ∧ g 13 = s13 ∧ SigsAt w s13 (d.getD noC).2 := by
  rcases d with _ | d
  · have h : g = f := h
    subst h
    exact ⟨_, hz 11 (by omega) (by omega), hz 12 (by omega) (by omega), hz 13 (by omega) (by omega), sigs_nil w⟩
  · obtain ⟨sv, hf, hs⟩ := certR_cells (show certR 11 d w lo hi f g from h)
    subst hf
    exact ⟨sv, rfl, rfl, rfl, hs⟩
theorem sig_part {d : Option (Int × List ByteArray)} {w : World} {lo hi : Nat} {f g : Nat → Value} (h : partR (sigR 14) d w lo hi f g) (hz : ∀ i, 14 ≤ i → i < 16 → f i = zM i) : ∃ t15, g 14 = .int .i64 (d.getD noS).1 ∧ g 15 = t15 ∧ StrsAt w t15 (d.getD noS).2 := by
  rcases d with _ | d
  · have h : g = f := h
    subst h
    exact ⟨_, hz 14 (by omega) (by omega), hz 15 (by omega) (by omega), strs_nil w⟩
  · obtain ⟨sv, hf, hs⟩ := sigR_cells (show sigR 14 d w lo hi f g from h)
    subst hf
    exact ⟨sv, rfl, rfl, hs⟩
theorem req_part {d : Option (Int × Int × ByteArray)} {w : World} {lo hi : Nat} {f g : Nat → Value} (h : partR (reqR 16) d w lo hi f g) (hz : ∀ i, 16 ≤ i → i < 19 → f i = zM i) : g 16 = .int .i64 (d.getD noR).1 ∧ g 17 = .int .i64 (d.getD noR).2.1 ∧ g 18 = .string (d.getD noR).2.2 := by
  rcases d with _ | d
  · have h : g = f := h
    subst h
    exact ⟨hz 16 (by omega) (by omega), hz 17 (by omega) (by omega), hz 18 (by omega) (by omega)⟩
  · have h : g = _ := h
    subst h
    exact ⟨rfl, rfl, rfl⟩
set_option maxHeartbeats 2000000 in
theorem msgR_cells {d : MsgD} {w : World} {lo hi : Nat} {f' : Nat → Value} (h : msgR d w lo hi zM f') : ∃ s9 r10 s13 t15, MsgAt w f' d.1.1.1.1.1.1.1.1.1.1 d.1.1.1.1.1.1.1.1.1.2 d.1.1.1.1.1.1.1.1.2 d.1.1.1.1.1.1.1.2 d.1.1.1.1.1.1.2 (d.1.1.1.1.1.2.getD noB) (d.1.1.1.1.2.getD noC) (d.1.1.1.2.getD noS) (d.1.1.2.getD noR) d.1.2 d.2 s9 r10 s13 t15 := by
  obtain ⟨g9, ⟨g8, ⟨g7, ⟨g6, ⟨g5, ⟨g4, ⟨g3, ⟨g2, ⟨g1, ⟨g0, h0, h1⟩, h2⟩, h3⟩, h4⟩, h5⟩, h6⟩, h7⟩, h8⟩, h9⟩, h10⟩ := h
  have e0 : g0 = put zM 0 _ := h0
  have e1 : g1 = put g0 1 _ := h1
  have e2 : g2 = put g1 2 _ := h2
  have e3 : g3 = put g2 3 _ := h3
  have e4 : g4 = put g3 4 _ := h4
  have e9 : g9 = put g8 19 _ := h9
  have e10 : f' = put g9 20 _ := h10
  have z4 : ∀ i, 5 ≤ i → g4 i = zM i := fun i hi => by rw [e4, put_ne (by omega), e3, put_ne (by omega), e2, put_ne (by omega), e1, put_ne (by omega), e0, put_ne (by omega)]
  have z5 : ∀ i, 11 ≤ i → g5 i = zM i := fun i hi => (touch_part (touch_block 5) _ _ _ _ _ _ h5 i (by omega)).trans (z4 i (by omega))
  have z6 : ∀ i, 14 ≤ i → g6 i = zM i := fun i hi => (touch_part (touch_cert 11) _ _ _ _ _ _ h6 i (by omega)).trans (z5 i (by omega))
  have z7 : ∀ i, 16 ≤ i → g7 i = zM i := fun i hi => (touch_part (touch_sig 14) _ _ _ _ _ _ h7 i (by omega)).trans (z6 i (by omega))
  have d8 : ∀ i, i < 19 → f' i = g8 i := fun i hi => by rw [e10, put_ne (by omega), e9, put_ne (by omega)]
  have d7 : ∀ i, i < 16 → f' i = g7 i := fun i hi => (d8 i (by omega)).trans (dn_part (dn_req 16) _ _ _ _ _ _ h8 i hi)
  have d6 : ∀ i, i < 14 → f' i = g6 i := fun i hi => (d7 i (by omega)).trans (dn_part (dn_sig 14) _ _ _ _ _ _ h7 i hi)
  have d5 : ∀ i, i < 11 → f' i = g5 i := fun i hi => (d6 i (by omega)).trans (dn_part (dn_cert 11) _ _ _ _ _ _ h6 i hi)
  have d4 : ∀ i, i < 5 → f' i = g4 i := fun i hi => (d5 i (by omega)).trans (dn_part (dn_block 5) _ _ _ _ _ _ h5 i hi)
  obtain ⟨s9, r10, b5, b6, b7, b8, b9, b10, hs9, hr10⟩ := block_part h5 (fun i hi _ => z4 i hi)
  obtain ⟨s13, c11, c12, c13, hs13⟩ := cert_part h6 (fun i hi _ => z5 i hi)
  obtain ⟨t15, a14, a15, ht15⟩ := sig_part h7 (fun i hi _ => z6 i hi)
  obtain ⟨r16, r17, r18⟩ := req_part h8 (fun i hi _ => z7 i hi)
  refine ⟨s9, r10, s13, t15, ?_, ?_, ?_, ?_, ?_, (d5 5 (by omega)).trans b5, (d5 6 (by omega)).trans b6, (d5 7 (by omega)).trans b7, (d5 8 (by omega)).trans b8, (d5 9 (by omega)).trans b9, (d5 10 (by omega)).trans b10, (d6 11 (by omega)).trans c11, (d6 12 (by omega)).trans c12, (d6 13 (by omega)).trans c13, (d7 14 (by omega)).trans a14, (d7 15 (by omega)).trans a15, (d8 16 (by omega)).trans r16, (d8 17 (by omega)).trans r17, (d8 18 (by omega)).trans r18, ?_, ?_, hs9, hr10, hs13, ht15⟩
  · rw [d4 0 (by omega), e4, put_ne (by omega), e3, put_ne (by omega), e2, put_ne (by omega), e1, put_ne (by omega), e0, put_self]
  · rw [d4 1 (by omega), e4, put_ne (by omega), e3, put_ne (by omega), e2, put_ne (by omega), e1, put_self]
  · rw [d4 2 (by omega), e4, put_ne (by omega), e3, put_ne (by omega), e2, put_self]
  · rw [d4 3 (by omega), e4, put_ne (by omega), e3, put_self]
  · rw [d4 4 (by omega), e4, put_self]
  · rw [e10, put_ne (by omega), e9, put_self]
  · rw [e10, put_self]
theorem msg_shape {d : MsgD} {w : World} {lo hi : Nat} {f' : Nat → Value} (h : msgR d w lo hi zM f') : ∃ (i0 : Int) (i1 : Int) (i2 : Int) (i3 : Int) (t4 : ByteArray) (i5 : Int) (i6 : Int) (i7 : Int) (t8 : ByteArray) (a9_ : Option Addr) (l9 c9 : Nat) (a10_ : Option Addr) (l10 c10 : Nat) (i11 : Int) (t12 : ByteArray) (a13_ : Option Addr) (l13 c13 : Nat) (i14 : Int) (a15_ : Option Addr) (l15 c15 : Nat) (i16 : Int) (i17 : Int) (t18 : ByteArray) (i19 : Int) (t20 : ByteArray), f' 0 = .int .i64 i0 ∧ f' 1 = .int .i64 i1 ∧ f' 2 = .int .i64 i2 ∧ f' 3 = .int .i64 i3 ∧ f' 4 = .string t4 ∧ f' 5 = .int .i64 i5 ∧ f' 6 = .int .i64 i6 ∧ f' 7 = .int .i64 i7 ∧ f' 8 = .string t8 ∧ f' 9 = .slice a9_ l9 c9 ∧ f' 10 = .slice a10_ l10 c10 ∧ f' 11 = .int .i64 i11 ∧ f' 12 = .string t12 ∧ f' 13 = .slice a13_ l13 c13 ∧ f' 14 = .int .i64 i14 ∧ f' 15 = .slice a15_ l15 c15 ∧ f' 16 = .int .i64 i16 ∧ f' 17 = .int .i64 i17 ∧ f' 18 = .string t18 ∧ f' 19 = .int .i64 i19 ∧ f' 20 = .string t20 := by
  obtain ⟨s9, r10, s13, t15, M⟩ := msgR_cells h
  obtain ⟨a9, c9, rfl, _⟩ := M.h9
  obtain ⟨a10, c10, rfl, _⟩ := M.h10
  obtain ⟨a13, c13, rfl, _⟩ := M.h13
  obtain ⟨a15, c15, rfl, _⟩ := M.h15
  exact ⟨_, _, _, _, _, _, _, _, _, _, _, _, _, _, _, _, _, _, _, _, _, _, _, _, _, _, _, _, _, M.y0, M.y1, M.y2, M.y3, M.y4, M.y5, M.y6, M.y7, M.y8, M.y9, M.y10, M.y11, M.y12, M.y13, M.y14, M.y15, M.y16, M.y17, M.y18, M.y19, M.y20⟩
end Go.Proofs.Ytphlpgdbngbplaa
end
