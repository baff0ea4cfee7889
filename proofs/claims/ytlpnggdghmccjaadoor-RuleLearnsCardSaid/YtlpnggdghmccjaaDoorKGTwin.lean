/-
  The code's forest and the reference's, side by side in memory.
-/
import Derived.Test.YtlpnggdghmccjaaDoorKGAdopt
import Derived.Maps.AppendAt
import Derived.Test.YtlpnggdghmccjaaDoorKFUp
import Derived.Test.YtlpnggdghmccjaaDoorKFHash
import Derived.Test.YtlpnggdghmccjaaDoorKRVote
import Derived.Test.YtlpnggdghmccjaaDoorKFPutB
section
open Go Go.RowKit
namespace FF
open JJ CC WW BB MM
theorem fits_not {F : Fo} {b : BlockD} (hp : hasF F (parI b) = false) : fitsF F b = if 8 ≤ F.orph.length then 7 else 0 := by
  unfold fitsF
  have hb : ¬ badF F b := fun h => by
    rw [has_eq, decide_eq_true h.1] at hp; cases hp
  rw [if_neg hb, hp]; rfl
theorem put_known {F : Fo} {x : It} (h : hasF F x.1 = true ∨ 0 ≤ atI F.orph x.1) : putF F x = (F, 6) := by unfold putF; rw [if_pos h]
theorem put_wait {F : Fo} {x : It} (h : ¬ (hasF F x.1 = true ∨ 0 ≤ atI F.orph x.1)) (hp : hasF F (parI x.2) = false) : putF F x = if 8 ≤ F.orph.length then (F, 7) else ({ F with orph := F.orph ++ [x] }, 0) := by unfold putF; rw [if_neg h, if_pos hp]
theorem put_err {F : Fo} {x : It} (h : ¬ (hasF F x.1 = true ∨ 0 ≤ atI F.orph x.1)) (hp : hasF F (parI x.2) = true) (he : (standF F x).2 ≠ 0) : putF F x = (F, (standF F x).2) := by unfold putF; rw [if_neg h, if_neg (by rw [hp]; simp), if_pos he]
theorem put_stand {F : Fo} {x : It} (h : ¬ (hasF F x.1 = true ∨ 0 ≤ atI F.orph x.1)) (hp : hasF F (parI x.2) = true) (he : (standF F x).2 = 0) : putF F x = (adoptF 10 (standF F x).1, 0) := by unfold putF; rw [if_neg h, if_neg (by rw [hp]; simp), if_neg (by rw [he]; simp)]
/-- a copy rests upon what was laid for it -/
theorem dep_copy {B : Nat} {w : World} {x : Iv} (hs : SigsNew B w x.2.1 (sigsI x.1.2)) (hr : ReqsAt w x.2.2 x.1.2.2) (ho : ∀ c, x.2.2.ownBlock = some c → B ≤ c) : Dep (fun b => B ≤ b ∧ b < w.heap.size) w (fun wx => InnV wx x) := fun _ hk =>
  ⟨(hs.keep hk.b0.size fun c h1 h2 => hk.block c ⟨h1, h2⟩ h2).sigs, reqs_keep hr hk.b0.size fun c h1 h2 => hk.block c ⟨ho c h1, h2⟩ h2⟩
end FF
namespace Go.Proofs.YtlpnggdghmccjaaDoor
open FF JJ CC MM WW BB
section
variable {B : Nat} {w w' w1 : World} {g : Nat} {F : Fo} {rt : ByteArray} {mv ov : Value} {N O : List Iv} {C : Nat → Prop}
theorem CFs.widen (h : CFs B w g F rt mv ov N O C) (C' : Nat → Prop) (hs : ∀ b, C b → C' b) (hB : ∀ b, C' b → B ≤ b) (hg : ¬ C' g) (hm : ∀ b, mapBlk mv = some b → ¬ C' b) (ho : ∀ b, ov.ownBlock = some b → ¬ C' b) (hl : ∀ b, C' b → b < w.heap.size) : CFs B w g F rt mv ov N O C' :=
  ⟨h.wf, h.blk, h.root, h.nodes, h.orph, h.map, h.mB, h.row, h.inn.more fun b hb _ => hs b hb, h.gB, hB, hg, hm, ho, hl, h.small⟩
/-- what was laid behind w0 is taken in -/
theorem CFs.widen' (h : CFs B w g F rt mv ov N O C) (n : Nat) (hg : g < n) (hm : ∀ b, mapBlk mv = some b → b < n) (ho : ∀ b, ov.ownBlock = some b → b < n) (hB : B ≤ n) : CFs B w g F rt mv ov N O (fun b => C b ∨ (n ≤ b ∧ b < w.heap.size)) :=
  h.widen _ (fun _ hb => Or.inl hb) (fun b hb => hb.elim (h.cB b) fun h => Nat.le_trans hB h.1) (fun hb => hb.elim h.cg fun h => by omega) (fun b e hb => hb.elim (h.cm b e) fun h => by have := hm b e; omega)
    (fun b e hb => hb.elim (h.co b e) fun h => by have := ho b e; omega) (fun b hb => hb.elim (h.cl b) fun h => h.2)
theorem CFs.pushed {ov' : Value} (h : CFs B w g F rt mv ov N O C) (x : Iv) (hx : Fresh F x.1) (h8 : F.orph.length < 8) (hI : Dep C w (fun w' => InnV w' x)) (hs : SmallI x.1.2) (hg : w.grownBy w1 ov.ownBlock) (hr : w1.ownsRow B 76 7 ov' (O.length + 1) (cellsV O ++ encV x)) (hloc : ∀ b, ov'.ownBlock = some b → ov.ownBlock = some b ∨ w.heap.size ≤ b) :
    CFs B (w1.setCell ⟨g, 3, none⟩ ov') g { F with orph := F.orph ++ [x.1] } rt mv ov' N (O ++ [x]) C := by
  have hu := Upd.set w1 g 3 ov'
  have hgo : ∀ b, ov'.ownBlock = some b → b ≠ g := fun b hb e => by
    rcases hloc b hb with h1 | h1
    · exact h.go (e ▸ h1)
    · have := h.blk.lt; omega
  have hk : Keeps (fun b => ov.ownBlock ≠ some b ∧ b ≠ g) w (w1.setCell ⟨g, 3, none⟩ ov') := (Keeps.grown hg fun b e c => c.1 e).trans (Keeps.upd' hu fun c => c.2 rfl)
  have hmem : ∀ y ∈ N ++ (O ++ [x]), y ∈ N ++ O ∨ y = x := fun y hy => by
    rw [← List.append_assoc, List.mem_append, List.mem_singleton] at hy; exact hy
  refine ⟨orph_wf h.wf hx h8, ?_, h.root, h.nodes, by rw [List.map_append, h.orph]; rfl, ?_, h.mB, ?_, ?_, h.gB, h.cB, h.cg, h.cm, ?_, fun b hb => Nat.lt_of_lt_of_le (h.cl b hb) hk.b0.size, ?_⟩
  · have k1 : TBlk 67 w1 g 4 _ := (hg.block g h.blk.lt (fun e => h.go e.symm)).trans h.blk
    refine (k1.set 3 _).congr _ fun j hj => ?_
    match j, hj with
    | 0, _ => rfl
    | 1, _ => rfl
    | 2, _ => rfl
    | 3, _ => rfl
  · refine (h.map.keep fun b hb => hk.block b ⟨fun e => h.mo b e hb, fun e => h.gm (e ▸ hb)⟩ (h.map.lt b hb)).congr fun y => ?_
    exact ent_orph F _ N y
  · rw [List.length_append, List.length_singleton, cellsV_snoc]
    exact row_keep hr fun c hc => hu.block c (hgo c hc)
  · intro w2 hw2 y hy
    have hC : Keeps C w _ := hk.sub fun b hb _ => ⟨fun e => h.co b e hb, fun e => h.cg (e ▸ hb)⟩
    rcases hmem y hy with hy | rfl
    · exact h.inn.on hC w2 hw2 y hy
    · exact hI.on hC w2 hw2
  · intro b hb hc
    rcases hloc b hb with h1 | h1
    · exact h.co b h1 hc
    · have := h.cl b hc; omega
  · intro y hy
    rcases hmem y hy with hy | rfl
    · exact h.small y hy
    · exact hs
end
/-- what Put leaves -/
def PutAns (B : Nat) (w : World) (g : Nat) (rt : ByteArray) (mv ov : Value) (C : Nat → Prop) (R : Fo × Int) (e : Ending) (w' : World) : Prop :=
  e = .returned (.int .i64 R.2) ∧ ∃ mv' ov' N' O' C', CFs B w' g R.1 rt mv' ov' N' O' C' ∧ Keeps (fun b => ¬ MineB g mv ov C b) w w' ∧ (∀ b, MineB g mv' ov' C' b → MineB g mv ov C b ∨ w.heap.size ≤ b)
theorem PutAns.same {B : Nat} {w w' : World} {g : Nat} {F : Fo} {rt : ByteArray} {mv ov : Value} {N O : List Iv} {C : Nat → Prop} {n : Int} (h : CFs B w g F rt mv ov N O C) (hb : Below w.heap.size w w') : PutAns B w g rt mv ov C (F, n) (.returned (.int .i64 n)) w' :=
  ⟨rfl, mv, ov, N, O, C, h.on hb, Keeps.of hb, fun _ h => Or.inl h⟩
theorem small_tags {l : List (Int × List ByteArray)} (h : SmallS l) : ∀ p ∈ l, p.2.length ≤ 1000 := fun p hp => by
  obtain ⟨i, hi, rfl⟩ := List.getElem_of_mem hp
  have := (h.2.2 i hi).2
  rwa [getD_at hi] at this
set_option maxRecDepth 100000 in
set_option maxHeartbeats 8000000 in
theorem gput_any {B : Nat} {w : World} {g : Nat} {F : Fo} {rt : ByteArray} {mv ov : Value} {N O : List Iv} {C : Nat → Prop} (hC : CFs B w g F rt mv ov N O C) (hT : Tabs w) (hN : ∀ b, B ≤ b → NoTab b) (hH : 0 ≤ F.height ∧ F.height ≤ 1000000000) (b : BlockD) (sv rv : Value) (hv : SigsAt w sv (sigsI b)) (hr : ReqsAt w rv b.2) (hs : SmallI b) :
    Calls Tryd.prog 16 #[.pointer (some ⟨g, 0, none⟩), .agg #[.int .i64 (viewI b), .int .i64 (propI b), .int .i64 (jvI b), .string (parI b), sv, rv]] w (PutAns B w g rt mv ov C (putF F (digI b, b))) := by
  have HC := Lib.hid hC
  have HT := Lib.hid hT
  have HNT := Lib.hid hN
  have HH := Lib.hid hH
  have HSM := Lib.hid hs
  have HSV := Lib.hid hv
  have HRV := Lib.hid hr
  obtain ⟨sa, sc, rfl⟩ := sl_of_sigs hv
  obtain ⟨ra, rc, rfl⟩ := sl_of_reqs hr
  obtain ⟨n1, hn1⟩ : ∃ n1, (sigsI b).length = n1 := ⟨_, rfl⟩
  obtain ⟨n2, hn2⟩ : ∃ n2, b.2.length = n2 := ⟨_, rfl⟩
  obtain ⟨v, hvv⟩ : ∃ v, viewI b = v := ⟨_, rfl⟩
  obtain ⟨p, hpp⟩ : ∃ p, propI b = p := ⟨_, rfl⟩
  obtain ⟨j, hj⟩ : ∃ j, jvI b = j := ⟨_, rfl⟩
  obtain ⟨k, hk⟩ : ∃ k, parI b = k := ⟨_, rfl⟩
  have HN1 := Lib.hid hn1
  have HN2 := Lib.hid hn2
  have HVV := Lib.hid hvv
  have HPP := Lib.hid hpp
  have HJ := Lib.hid hj
  have HK := Lib.hid hk
  rw [hn1] at HSV ⊢
  rw [hn2] at HRV ⊢
  rw [hvv, hpp, hj, hk]
  have HKS := Lib.hid (show k.size ≤ 1000 by rw [← hk]; exact hs.1)
  obtain ⟨H, hHH⟩ : ∃ H, digI b = H := ⟨_, rfl⟩
  have HHE := Lib.hid (show digD v p j k b.2 = H by rw [← hHH, ← hvv, ← hpp, ← hj, ← hk]; rfl)
  have H32 := Lib.hid (show H.size = 32 by rw [← hHH]; exact digD_size _ _ _ _ _)
  rw [hHH]
  have b1 := Lib.hid ((Below.refl w.heap.size w).alloc (Nat.le_refl _) (.cells #[.int .i64 v, .int .i64 p, .int .i64 j, .string k, .slice sa n1 sc, .slice ra n2 rc] 39))
  have L0 := Lib.hid (show Blk (w.alloc (.cells #[.int .i64 v, .int .i64 p, .int .i64 j, .string k, .slice sa n1 sc, .slice ra n2 rc] 39)) w.heap.size 6 (rowL [.int .i64 v, .int .i64 p, .int .i64 j, .string k, .slice sa n1 sc, .slice ra n2 rc]) from Blk.new' rfl rfl)
  clear hC hT hN hH hs hv hr hn1 hn2 hvv hpp hj hk hHH
  go_enter Tryd.func16, Tryd.ntmps16
  go_upto_region 1 with fail
  obtain ⟨y0, hy0⟩ : ∃ y0, w.heap.size = y0 := ⟨_, rfl⟩
  have HY0 := Lib.hid hy0
  obtain ⟨w1, hw1⟩ : ∃ w1, w.alloc (.cells #[.int .i64 v, .int .i64 p, .int .i64 j, .string k, .slice sa n1 sc, .slice ra n2 rc] 39) = w1 := ⟨_, rfl⟩
  rw [hw1] at b1 L0 ⊢
  rw [hy0] at L0 ⊢
  clear hw1 hy0
  have HC1 := Lib.hid (HC.out.on b1.out)
  have HT1 := Lib.hid (tabs_on HT.out b1.out)
  have HS := Lib.hid (fun (wx : World) (hb : Below w1.heap.size w1 wx) => show wx.cell? ⟨y0, 0, none⟩ = some (.int .i64 v) ∧ wx.cell? ⟨y0, 1, none⟩ = some (.int .i64 p) ∧ wx.cell? ⟨y0, 2, none⟩ = some (.int .i64 j) ∧ wx.cell? ⟨y0, 3, none⟩ = some (.string k) ∧ wx.cell? ⟨y0, 4, none⟩ = some (.slice sa n1 sc) ∧ wx.cell? ⟨y0, 5, none⟩ = some (.slice ra n2 rc) from by
    have L := L0.out.below hb L0.out.lt
    exact ⟨L.get 0 (by omega), L.get 1 (by omega), L.get 2 (by omega), L.get 3 (by omega), L.get 4 (by omega), L.get 5 (by omega)⟩)
  obtain ⟨d0, d1, d2, d3, d4, d5⟩ := HS.out w1 (Below.refl _ _)
  go_wp2_with fail
  refine (bdigest_any v p j k _ _ (sigsI b) b.2 w1 (HSV.out.later b1.out) (HRV.out.later b1.out) HKS.out HSM.out.2.1 HSM.out.2.2 HT1.out).mono ?_
  rintro e w2 ⟨rfl, hb2⟩
  rw [HHE.out]
  have X2 := Lib.hid hb2
  clear hb2 d0 d1 d2 d3 d4 d5
  obtain ⟨bh, hbh⟩ : ∃ bh, hasF F H = bh := ⟨_, rfl⟩
  have HBH := Lib.hid hbh
  clear hbh
  go_wp2_with fail
  refine (ghas_is (HC1.out.on X2.out) (tabs_on HT1.out X2.out) H bh HBH.out (by have := H32.out; omega)).mono ?_
  rintro e w3 ⟨rfl, hb3⟩
  have X3 := Lib.hid (X2.out.trans (hb3.mono X2.out.size))
  clear hb3
  cases bh
  rotate_left
  · go_wp2_with fail
    go_ret
    rw [put_known (Or.inl HBH.out)]
    exact PutAns.same HC.out (b1.out.trans (X3.out.mono b1.out.size))
  · obtain ⟨bw, hbw⟩ : ∃ bw, decide (0 ≤ atI F.orph H) = bw := ⟨_, rfl⟩
    have HBW := Lib.hid hbw
    clear hbw
    go_wp2_with fail
    refine (gwaits_any (HC1.out.on X3.out) H bw HBW.out).mono ?_
    rintro e w4 ⟨rfl, hb4⟩
    have X4 := Lib.hid (X3.out.trans (hb4.mono X3.out.size))
    clear hb4
    cases bw
    rotate_left
    · go_wp2_with fail
      go_ret
      rw [put_known (Or.inr (of_decide_eq_true HBW.out))]
      exact PutAns.same HC.out (b1.out.trans (X4.out.mono b1.out.size))
    · have HNK := Lib.hid (show ¬ (hasF F H = true ∨ 0 ≤ atI F.orph H) from fun h => h.elim (fun h => by rw [HBH.out] at h; cases h) (of_decide_eq_false HBW.out))
      have HFR := Lib.hid (show Fresh F (H, b) from fresh_of H32.out HBH.out (of_decide_eq_false HBW.out))
      obtain ⟨d0, d1, d2, d3, d4, d5⟩ := HS.out w4 X4.out
      obtain ⟨ec, hec⟩ : ∃ ec, fitsF F b = ec := ⟨_, rfl⟩
      have HEC := Lib.hid hec
      go_wp2_with fail
      refine (gfits_any (HC1.out.on X4.out) (tabs_on HT1.out X4.out) b v p j k HVV.out HJ.out HK.out (by have := HKS.out; omega) sa n1 sc ra n2 rc).mono ?_
      rintro e w5 ⟨rfl, hb5⟩
      rw [hec]
      have X5 := Lib.hid (X4.out.trans (hb5.mono X4.out.size))
      clear hb5 hec d0 d1 d2 d3 d4 d5
      obtain ⟨bp, hbp⟩ : ∃ bp, hasF F k = bp := ⟨_, rfl⟩
      have HBP := Lib.hid (show hasF F (parI b) = bp by rw [HK.out]; exact hbp)
      have HBP' := Lib.hid hbp
      clear hbp
      by_cases he : ec = 0
      rotate_left
      · have t1 : (ec == 0) = false := by simpa using he
        have HE := Lib.hid he
        clear he
        have HPF := Lib.hid (show putF F (H, b) = (F, ec) by
          cases bp
          · rw [put_wait HNK.out HBP.out]
            have h1 := fits_not HBP.out
            rw [HEC.out] at h1
            by_cases h8 : 8 ≤ F.orph.length
            · rw [if_pos h8] at h1 ⊢; rw [h1]
            · rw [if_neg h8] at h1; exact absurd h1 HE.out
          · have h1 := fits_has (x := (H, b)) HBP.out
            rw [put_err HNK.out HBP.out (by rw [← h1, HEC.out]; exact HE.out), ← h1, HEC.out])
        go_wp2_with fail
        go_ret
        rw [HPF.out]
        exact PutAns.same HC.out (b1.out.trans (X5.out.mono b1.out.size))
      · subst he
        obtain ⟨d0, d1, d2, d3, d4, d5⟩ := HS.out w5 X5.out
        go_wp2_with fail
        refine (parent_any v p j k sa ra n1 sc n2 rc w5).mono ?_
        rintro e w6 ⟨rfl, hb6⟩
        have X6 := Lib.hid (X5.out.trans (hb6.mono X5.out.size))
        clear hb6 d0 d1 d2 d3 d4 d5
        go_wp2_with fail
        refine (ghas_is (HC1.out.on X6.out) (tabs_on HT1.out X6.out) k bp HBP'.out (by have := HKS.out; omega)).mono ?_
        rintro e w7 ⟨rfl, hb7⟩
        have X7 := Lib.hid (X6.out.trans (hb7.mono X6.out.size))
        clear hb7
        cases bp
        · have H8 := Lib.hid (show F.orph.length < 8 by
            have h1 := fits_not HBP.out
            rw [HEC.out] at h1
            by_cases h8 : 8 ≤ F.orph.length
            · rw [if_pos h8] at h1; cases h1
            · omega)
          have HPF := Lib.hid (show putF F (H, b) = ({ F with orph := F.orph ++ [(H, b)] }, 0) by rw [put_wait HNK.out HBP.out, if_neg (by have := H8.out; omega)])
          obtain ⟨oa, oc, rfl⟩ := HC.out.shapeO
          go_wp2_with fail
          have HBL := Lib.hid (show ∀ wx, Blk wx y0 6 (rowL [.int .i64 v, .int .i64 p, .int .i64 j, .string k, .slice sa n1 sc, .slice ra n2 rc]) → (wx.cell? ⟨y0, 0, none⟩ = some (.int .i64 v) ∧ wx.cell? ⟨y0, 1, none⟩ = some (.int .i64 p) ∧ wx.cell? ⟨y0, 2, none⟩ = some (.int .i64 j) ∧ wx.cell? ⟨y0, 3, none⟩ = some (.string k) ∧ wx.cell? ⟨y0, 4, none⟩ = some (.slice sa n1 sc) ∧ wx.cell? ⟨y0, 5, none⟩ = some (.slice ra n2 rc)) from fun wx L =>
            ⟨L.get 0 (by omega), L.get 1 (by omega), L.get 2 (by omega), L.get 3 (by omega), L.get 4 (by omega), L.get 5 (by omega)⟩)
          refine planE_abs (fun wx => wx.cell? ⟨g, 3, none⟩ = some (.slice oa O.length oc) ∧ Blk wx y0 6 (rowL [.int .i64 v, .int .i64 p, .int .i64 j, .string k, .slice sa n1 sc, .slice ra n2 rc])) 13 [(true, 0), (true, 1), (true, 2), (true, 3), (true, 4), (true, 5), (true, 6), (false, 7), (true, 8), (false, 9), (false, 10), (false, 11), (false, 12), (false, 13)] (by kernel_rfl) (by kernel_rfl) (fun _ _ d _ _ h => by cases d <;> exact h) fun w8 hs8 => ⟨⟨(HC1.out.on (X7.out.trans (hs8.below _))).c3, L0.out.below (X7.out.trans (hs8.below _)) L0.out.lt⟩, ?_⟩
          have X8 := Lib.hid (X7.out.trans (hs8.below _))
          clear hs8
          iterate 7 (refine pe_run _ ?_ rfl rfl ?_ ?_; rotate_left; (focus (intro w' hS; obtain ⟨c3, hbb⟩ := hS; obtain ⟨d0, d1, d2, d3, d4, d5⟩ := HBL.out w' hbb; clear hbb; go_simp; exact rfl)); simp only [Act.put, List.setIfInBounds_toArray, List.set_cons_zero, List.set_cons_succ, List.getElem_toArray, List.getElem_cons_zero, List.getElem_cons_succ])
          refine pe_call (R := fun u w' => ∃ a0 cap a1 cap1, u = .agg #[.int .i64 v, .int .i64 p, .int .i64 j, .string k, .slice a0 n1 cap, .slice a1 n2 cap1] ∧ SigsNew w8.heap.size w' (.slice a0 n1 cap) (sigsI b) ∧ ReqsAt w' (.slice a1 n2 cap1) b.2 ∧ (∀ c, (Value.slice a1 n2 cap1).ownBlock = some c → w8.heap.size ≤ c) ∧ Below w8.heap.size w8 w') _ rfl rfl (by go_simp) ((gcopied_any v p j k _ _ (sigsI b) b.2 w8 (HSV.out.later (b1.out.trans (X8.out.mono b1.out.size))) (HRV.out.later (b1.out.trans (X8.out.mono b1.out.size))) HSM.out.2.1.1 (small_tags HSM.out.2.1) (Nat.le_trans HSM.out.2.2.1 (by omega))).mono fun e w' h => ?_) (fun u w' h => ?_) fun u w9 hr => ?_
          · obtain ⟨a0, cap, a1, cap1, rfl, h1, h2, h3, h4⟩ := h
            rw [HN1.out] at h1 ⊢
            rw [HN2.out] at h2 h3 ⊢
            exact ⟨_, rfl, a0, cap, a1, cap1, rfl, h1, h2, h3, h4⟩
          · obtain ⟨_, _, _, _, _, _, _, _, hb⟩ := h
            exact ⟨(HC1.out.on (X8.out.trans (hb.mono X8.out.size))).c3, L0.out.below (X8.out.trans (hb.mono X8.out.size)) L0.out.lt⟩
          · obtain ⟨a0, cap, a1, cap1, rfl, hsn, hrn, hon, hb9⟩ := hr
            have B9 := Lib.hid hb9
            have X9 := Lib.hid (X8.out.trans (hb9.mono X8.out.size))
            have HSN := Lib.hid hsn
            have HRN := Lib.hid hrn
            have HON := Lib.hid hon
            clear hsn hrn hon hb9
            have HWL := Lib.hid (show g < w8.heap.size ∧ (∀ b, mapBlk mv = some b → b < w8.heap.size) ∧ (∀ b, (Value.slice oa O.length oc).ownBlock = some b → b < w8.heap.size) ∧ w.heap.size ≤ w8.heap.size from by
              have hz : w.heap.size ≤ w8.heap.size := (b1.out.trans (X8.out.mono b1.out.size)).size
              exact ⟨Nat.lt_of_lt_of_le HC.out.blk.lt hz, fun b hb => Nat.lt_of_lt_of_le (HC.out.map.lt b hb) hz, fun b hb => Nat.lt_of_lt_of_le (HC.out.row.lt b hb).2 hz, hz⟩)
            have CF9 := Lib.hid ((HC1.out.on X9.out).widen' w8.heap.size HWL.out.1 HWL.out.2.1 HWL.out.2.2.1 (Nat.le_trans HC.out.gB (Nat.le_of_lt HWL.out.1)))
            have HDI := Lib.hid (show Dep (fun c => C c ∨ (w8.heap.size ≤ c ∧ c < w9.heap.size)) w9 (fun wx => InnV wx ((H, b), .slice a0 n1 cap, .slice a1 n2 cap1)) from
              (dep_copy (x := ((H, b), .slice a0 n1 cap, .slice a1 n2 cap1)) HSN.out HRN.out HON.out).more fun _ hb _ => Or.inr hb)
            simp only [Act.put, List.setIfInBounds_toArray, List.set_cons_zero, List.set_cons_succ, List.getElem_toArray, List.getElem_cons_zero, List.getElem_cons_succ]
            refine pe_run _ (.agg #[.string H, .int .i64 v, .int .i64 p, .int .i64 j, .string k, .slice a0 n1 cap, .slice a1 n2 cap1]) rfl rfl (fun w' hS => by go_simp) ?_
            simp only [Act.put, List.setIfInBounds_toArray, List.set_cons_zero, List.set_cons_succ, List.getElem_toArray, List.getElem_cons_zero, List.getElem_cons_succ]
            have BA := Lib.hid ((Below.refl w9.heap.size w9).alloc (Nat.le_refl _) (.cells #[.string H, .int .i64 v, .int .i64 p, .int .i64 j, .string k, .slice a0 n1 cap, .slice a1 n2 cap1] 76))
            have XA := Lib.hid (X9.out.trans (BA.out.mono X9.out.size))
            obtain ⟨wa, hwa⟩ : ∃ wa, w9.alloc (.cells #[.string H, .int .i64 v, .int .i64 p, .int .i64 j, .string k, .slice a0 n1 cap, .slice a1 n2 cap1] 76) = wa := ⟨_, rfl⟩
            have HNW := Lib.hid (show ∀ i u, (encV ((H, b), .slice a0 n1 cap, .slice a1 n2 cap1))[i]? = some u → wa.cell? ((⟨w9.heap.size, 0, none⟩ : Addr).add i) = some u from fun i u hu => by
              have e : (⟨w9.heap.size, 0, none⟩ : Addr).add i = ⟨w9.heap.size, i, none⟩ := by unfold Addr.add; split <;> simp [*]
              rw [e, ← hwa]
              refine cell_new w9 _ _ i u ?_
              rw [← hu]
              unfold encV
              simp only [HVV.out, HPP.out, HJ.out, HK.out]
              simp)
            refine pe_value (w' := wa) _ (.slice (some ⟨w9.heap.size, 0, none⟩) 1 1) rfl rfl (by rw [← hwa]; go_simp) ⟨by rw [← hwa]; exact (HC1.out.on XA.out).c3, by rw [← hwa]; exact L0.out.below XA.out L0.out.lt⟩ ?_
            simp only [Act.put, List.setIfInBounds_toArray, List.set_cons_zero, List.set_cons_succ, List.getElem_toArray, List.getElem_cons_zero, List.getElem_cons_succ]
            rw [hwa] at BA XA
            clear hwa
            have CFA := Lib.hid (CF9.out.on BA.out)
            have HDA := Lib.hid (HDI.out.on (Keeps.of BA.out))
            obtain ⟨ti, i1, i2, i3, i4⟩ := info_parts (show (Tryd.prog.info? 76).map (fun i => (i.zero, i.size, i.bytes)) = some (some (.agg #[.string ⟨#[]⟩, .int .i64 0, .int .i64 0, .int .i64 0, .string ⟨#[]⟩, .slice none 0 0, .slice none 0 0]), 7, 104) by kernel_rfl)
            obtain ⟨v', w10, hrun, hown, hgr, _, hloc⟩ := run_append_own_at (P := Tryd.prog) (w := wa) B 65 65 76 ti _ 7 104 (by kernel_rfl) i1 i2 i3 i4 rfl (by decide) _ O.length (cellsV O) CFA.out.row ⟨w9.heap.size, 0, none⟩ 1 1 (encV ((H, b), .slice a0 n1 cap, .slice a1 n2 cap1)) rfl HNW.out (encV_one HDA.out.now) (by have := HC.out.o8; unfold maxLen; omega) (by have := HC.out.o8; omega) (Nat.le_trans HC.out.gB (Nat.le_trans (Nat.le_of_lt HWL.out.1) (Nat.le_trans B9.out.size BA.out.size)))
            obtain ⟨a', c', rfl⟩ : ∃ a' c', v' = .slice a' (O.length + 1) c' := by
              rcases hown.2 with ⟨_, h0⟩ | ⟨q, cp, cur, rfl, _⟩
              · omega
              · exact ⟨_, _, rfl⟩
            have GR := Lib.hid hgr
            have HOW := Lib.hid hown
            have HLO := Lib.hid (show ∀ c, (Value.slice a' (O.length + 1) c').ownBlock = some c → (Value.slice oa O.length oc).ownBlock = some c ∨ wa.heap.size ≤ c from fun c hc => by
              rcases hloc with h | h
              · exact Or.inl (h ▸ hc)
              · rw [h] at hc; injection hc with hc; exact Or.inr (by omega))
            have c10 : w10.cell? ⟨g, 3, none⟩ = some (.slice oa O.length oc) := (World.cell?_of_block (w := wa) (a := ⟨g, 3, none⟩) (hgr.block g CFA.out.blk.lt (fun e => CFA.out.go e.symm))).trans CFA.out.c3
            have f10 : w10.frozen? ⟨g, 3, none⟩ = false := (World.frozen?_of_block (w := wa) (a := ⟨g, 3, none⟩) (hgr.block g CFA.out.blk.lt (fun e => CFA.out.go e.symm))).trans (CFA.out.blk.blk.frz 3)
            have L10 := Lib.hid (show Blk w10 y0 6 (rowL [.int .i64 v, .int .i64 p, .int .i64 j, .string k, .slice sa n1 sc, .slice ra n2 rc]) from (L0.out.below XA.out L0.out.lt).of_heap (hgr.block y0 (L0.out.below XA.out L0.out.lt).lt (fun e => by
              have h1 := (HC.out.row.lt y0 e.symm).2
              have h2 := HY0.out
              omega)))
            clear hgr hown hloc i1 i2 i3 i4
            refine pe_value (w' := w10) _ (.slice a' (O.length + 1) c') rfl rfl (by simp [execOp, resolve, invoke, builtin, Act.eval, hrun, Result.andThen]) ⟨c10, L10.out⟩ ?_
            clear hrun
            simp only [Act.put, List.setIfInBounds_toArray, List.set_cons_zero, List.set_cons_succ, List.getElem_toArray, List.getElem_cons_zero, List.getElem_cons_succ]
            refine pe_value (w' := w10) _ (.pointer (some ⟨g, 0, none⟩)) rfl rfl (by go_simp) ⟨c10, L10.out⟩ ?_
            simp only [Act.put, List.setIfInBounds_toArray, List.set_cons_zero, List.set_cons_succ, List.getElem_toArray, List.getElem_cons_zero, List.getElem_cons_succ]
            refine pe_value (w' := w10) _ (.pointer (some ⟨g, 3, none⟩)) rfl rfl (by go_simp) ⟨c10, L10.out⟩ ?_
            simp only [Act.put, List.setIfInBounds_toArray, List.set_cons_zero, List.set_cons_succ, List.getElem_toArray, List.getElem_cons_zero, List.getElem_cons_succ]
            refine pe_last _ rfl ?_
            simp only [List.getElem_toArray, List.getElem_cons_zero, List.getElem_cons_succ]
            go_wp2_with fail
            go_ret
            rw [HPF.out]
            refine ⟨rfl, mv, _, N, O ++ [((H, b), .slice a0 n1 cap, .slice a1 n2 cap1)], _, CFA.out.pushed ((H, b), .slice a0 n1 cap, .slice a1 n2 cap1) HFR.out H8.out HDA.out HSM.out GR.out HOW.out HLO.out, ?_, fun c hc => ?_⟩
            · have k1 : Keeps (fun c => ¬ MineB g mv (.slice oa O.length oc) C c) w wa := Keeps.of (b1.out.trans (XA.out.mono b1.out.size))
              exact (k1.trans (Keeps.grown GR.out fun c e h => h (Or.inr (Or.inr (Or.inl e))))).trans (Keeps.upd' (Upd.set _ g 3 _) fun h => h (Or.inl rfl))
            · rcases hc with hc | hc | hc | hc | hc
              · exact Or.inl (Or.inl hc)
              · exact Or.inl (Or.inr (Or.inl hc))
              · rcases HLO.out c hc with h | h
                · exact Or.inl (Or.inr (Or.inr (Or.inl h)))
                · exact Or.inr (Nat.le_trans HWL.out.2.2.2 (Nat.le_trans B9.out.size (Nat.le_trans BA.out.size h)))
              · exact Or.inl (Or.inr (Or.inr (Or.inr hc)))
              · exact Or.inr (Nat.le_trans HWL.out.2.2.2 hc.1)
        · have HSO := Lib.hid (show standF F (H, b) = (moreF F (H, b), 0) ∧ F.nodes.length < 400 from stand_ok (by rw [← fits_has (x := (H, b)) HBP.out]; exact HEC.out))
          have HPF := Lib.hid (show putF F (H, b) = (adoptF 10 (moreF F (H, b)), 0) by rw [put_stand HNK.out HBP.out (by rw [HSO.out.1]), HSO.out.1])
          obtain ⟨d0, d1, d2, d3, d4, d5⟩ := HS.out w7 X7.out
          go_wp2_with fail
          refine (gcopied_any v p j k _ _ (sigsI b) b.2 w7 (HSV.out.later (b1.out.trans (X7.out.mono b1.out.size))) (HRV.out.later (b1.out.trans (X7.out.mono b1.out.size))) HSM.out.2.1.1 (small_tags HSM.out.2.1) (Nat.le_trans HSM.out.2.2.1 (by omega))).mono ?_
          rintro e w8 ⟨a0, cap, a1, cap1, rfl, hsn, hrn, hon, hb8⟩
          rw [HN1.out] at hsn ⊢
          rw [HN2.out] at hrn hon ⊢
          have B8 := Lib.hid hb8
          have X8 := Lib.hid (X7.out.trans (hb8.mono X7.out.size))
          have HSN := Lib.hid hsn
          have HRN := Lib.hid hrn
          have HON := Lib.hid hon
          clear hsn hrn hon hb8 d0 d1 d2 d3 d4 d5
          have HWL := Lib.hid (show g < w7.heap.size ∧ (∀ b, mapBlk mv = some b → b < w7.heap.size) ∧ (∀ b, ov.ownBlock = some b → b < w7.heap.size) ∧ w.heap.size ≤ w7.heap.size from by
            have hz : w.heap.size ≤ w7.heap.size := (b1.out.trans (X7.out.mono b1.out.size)).size
            exact ⟨Nat.lt_of_lt_of_le HC.out.blk.lt hz, fun b hb => Nat.lt_of_lt_of_le (HC.out.map.lt b hb) hz, fun b hb => Nat.lt_of_lt_of_le (HC.out.row.lt b hb).2 hz, hz⟩)
          have CF8 := Lib.hid ((HC1.out.on X8.out).widen' w7.heap.size HWL.out.1 HWL.out.2.1 HWL.out.2.2.1 (Nat.le_trans HC.out.gB (Nat.le_of_lt HWL.out.1)))
          have T8 := Lib.hid (tabs_on HT1.out X8.out)
          have HDI := Lib.hid (show Dep (fun c => C c ∨ (w7.heap.size ≤ c ∧ c < w8.heap.size)) w8 (fun wx => InnV wx ((H, b), .slice a0 n1 cap, .slice a1 n2 cap1)) from
            (dep_copy (x := ((H, b), .slice a0 n1 cap, .slice a1 n2 cap1)) HSN.out HRN.out HON.out).more fun _ hb _ => Or.inr hb)
          have HSA := gstand_any CF8.out T8.out HNT.out ((H, b), .slice a0 n1 cap, .slice a1 n2 cap1) HFR.out HBP.out HSO.out.2 HDI.out HSM.out HH.out a0 n1 cap a1 n2 cap1 rfl rfl
          simp only [HVV.out, HPP.out, HJ.out, HK.out] at HSA
          go_wp2_with fail
          refine HSA.mono ?_
          rintro e w9 ⟨rfl, bm, hcf, hk9, hbm⟩
          have CF9 := Lib.hid hcf
          have K9 := Lib.hid hk9
          have HBM := Lib.hid hbm
          have T9 := Lib.hid (show Tabs w9 from tabs_keeps T8.out hk9 fun c => if e : c = g then Or.inl (HNT.out c (e ▸ HC.out.gB)) else if e2 : mapBlk mv = some c then Or.inl (HNT.out c (HC.out.mB c e2)) else Or.inr ⟨e, e2⟩)
          clear hcf hk9 hbm HSA
          go_wp2_with fail
          refine (gadopt_any CF9.out T9.out HNT.out HH.out).mono ?_
          rintro e w10 ⟨rfl, mv', ov', N', O', hcf, hk10, hmn, hon⟩
          have CF10 := Lib.hid hcf
          have K10 := Lib.hid hk10
          have HMN := Lib.hid hmn
          have HOO := Lib.hid hon
          clear hcf hk10 hmn hon
          go_wp2_with fail
          go_ret
          rw [HPF.out]
          have hz : w.heap.size ≤ w8.heap.size := Nat.le_trans HWL.out.2.2.2 B8.out.size
          refine ⟨rfl, mv', ov', N', O', _, CF10.out, ?_, fun c hc => ?_⟩
          · have k1 : Keeps (fun c => ¬ MineB g mv ov C c) w w8 := Keeps.of (b1.out.trans (X8.out.mono b1.out.size))
            refine ⟨(k1.b0.trans K9.out.b0).trans K10.out.b0, fun c hc hl => ?_⟩
            have e1 := k1.block c hc hl
            have l8 : c < w8.heap.size := Nat.lt_of_lt_of_le hl hz
            have e2 := K9.out.block c ⟨fun e => hc (Or.inl e), fun e => hc (Or.inr (Or.inl e))⟩ l8
            have e3 := K10.out.block c ⟨fun e => hc (Or.inl e), fun e => by
              injection e with e
              subst e
              rcases HBM.out with h | h
              · exact hc (Or.inr (Or.inl h))
              · omega, fun e => hc (Or.inr (Or.inr (Or.inl e)))⟩ (Nat.lt_of_lt_of_le l8 K9.out.b0.size)
            exact e3.trans (e2.trans e1)
          · rcases hc with hc | hc | hc | hc | hc
            · exact Or.inl (Or.inl hc)
            · rcases HMN.out c hc with h | h
              · injection h with h
                subst h
                rcases HBM.out with h | h
                · exact Or.inl (Or.inr (Or.inl h))
                · exact Or.inr (Nat.le_trans hz h)
              · exact Or.inr (Nat.le_trans hz (Nat.le_trans K9.out.b0.size h))
            · exact Or.inl (Or.inr (Or.inr (Or.inl (HOO.out c hc))))
            · exact Or.inl (Or.inr (Or.inr (Or.inr hc)))
            · exact Or.inr (Nat.le_trans HWL.out.2.2.2 hc.1)
end Go.Proofs.YtlpnggdghmccjaaDoor
end
section
open Go Go.RowKit
namespace FF
open WW BB
/-- strings in a row of the call's own, so many orphans being through -/
structure LkSt (w0 : World) (e : TypeId) (out : List ByteArray) (x : Value) (wr : World) : Prop where
  below : Below w0.heap.size w0 wr
  row : wr.ownsRow w0.heap.size e 1 x out.length (out.map Value.string)
theorem LkSt.shape {w0 : World} {e : TypeId} {out : List ByteArray} {x : Value} {wr : World} (h : LkSt w0 e out x wr) : ∃ a c, x = .slice a out.length c := by
  rcases h.row.2 with ⟨rfl, h0⟩ | ⟨q, cp, cur, rfl, _⟩
  · exact ⟨none, 0, by rw [h0]⟩
  · exact ⟨_, _, rfl⟩
theorem LkSt.on {w0 : World} {e : TypeId} {out : List ByteArray} {x : Value} {wr w2 : World} (h : LkSt w0 e out x wr) (hb : Below wr.heap.size wr w2) : LkSt w0 e out x w2 :=
  ⟨h.below.trans (hb.mono h.below.size), row_keep h.row fun c hc => hb.block c (h.row.lt c hc).2⟩
theorem LkSt.add {w0 : World} {e : TypeId} {out : List ByteArray} {x u' : Value} {wr w3 : World} (h : LkSt w0 e out x wr) (p : ByteArray) (hr : w3.ownsRow w0.heap.size e 1 u' (out.length + 1) (out.map Value.string ++ [.string p])) (hg : wr.grownBy w3 x.ownBlock) : LkSt w0 e (out ++ [p]) u' w3 :=
  ⟨h.below.grown hg h.below.size fun k hk => (h.row.lt k hk).1, by rw [List.length_append, List.map_append]; exact hr⟩
theorem LkSt.nil (w : World) (e : TypeId) : LkSt w e [] (.slice none 0 0) w := ⟨Below.refl _ _, World.ownsRow_nil _ _ _ _⟩
theorem map_take_snoc (O : List Iv) (i : Nat) (hi : i < O.length) : (O.take (i + 1)).map (fun z => z.1.1) = (O.take i).map (fun z => z.1.1) ++ [(O.getD i v0).1.1] := by
  rw [List.take_add_one, List.getElem?_eq_getElem hi, List.map_append, getD_at hi]; rfl
end FF
namespace Go.Proofs.YtlpnggdghmccjaaDoor
open FF JJ CC MM WW BB
set_option maxRecDepth 100000 in
set_option maxHeartbeats 4000000 in
theorem gnew_any (B : Nat) (w : World) (hB : B ≤ w.heap.size) :
    Calls Tryd.prog 13 #[] w fun e w' => e = .returned (.pointer (some ⟨w.heap.size, 0, none⟩)) ∧ CFs B w' w.heap.size ⟨firstD, 0, [], []⟩ ⟨#[]⟩ (.map none) (.slice none 0 0) [] [] (fun _ => False) ∧ Below w.heap.size w w' := by
  have b1 := Lib.hid ((Below.refl w.heap.size w).alloc (Nat.le_refl _) (.cells #[.string ⟨#[]⟩, .int .i64 0, .map none, .slice none 0 0] 67))
  have k1 := Lib.hid (show TBlk 67 (w.alloc (.cells #[.string ⟨#[]⟩, .int .i64 0, .map none, .slice none 0 0] 67)) w.heap.size 4 (rowL [.string ⟨#[]⟩, .int .i64 0, .map none, .slice none 0 0]) from TBlk.new' _ _ _ _ _ _ rfl rfl)
  have HB := Lib.hid hB
  go_enter Tryd.func13, Tryd.ntmps13
  go_wp2_with fail
  go_ret
  refine ⟨rfl, ⟨new_wf _ firstD_size, k1.out, Or.inl ⟨rfl, rfl⟩, rfl, rfl, Or.inl ⟨rfl, (fun _ => rfl), rfl⟩, (fun b h => by cases h), World.ownsRow_nil _ _ _ _, (fun _ _ x hx => by cases hx), HB.out, (fun b (h : False) => h.elim), (fun h => h), (fun b h => by cases h), (fun b h => by cases h), (fun b (h : False) => h.elim), (fun x hx => by cases hx)⟩, b1.out⟩
end Go.Proofs.YtlpnggdghmccjaaDoor
end
section
open Go Go.RowKit
namespace FF
open WW BB
def zeroB : BlockD := (((0, 0), ((0, ⟨#[]⟩), [])), [])
theorem Keeps.low {A : Nat → Prop} {w w' : World} {n : Nat} (h : Keeps A w w') (hA : ∀ b, b < n → A b) (hn : n ≤ w.heap.size) : Below n w w' :=
  ⟨h.b0.os, h.b0.tape, h.b0.output, h.b0.size, fun k hk => h.block k (hA k hk) (Nat.lt_of_lt_of_le hk hn)⟩
theorem zero_apart : digI zeroB ≠ CC.firstD := dg_apart (JJ.digB 0 0 0 ⟨#[]⟩ []) ⟨#[102, 105, 114, 115, 116]⟩ (by decide) (by decide) (by kernel_rfl)
theorem zero_small : SmallI zeroB := by
  refine ⟨by show (0 : Nat) ≤ 1000; omega, ⟨by show (0 : Nat) ≤ 1000; omega, by show (0 : Nat) ≤ 500000; omega, fun j hj => absurd hj (Nat.not_lt_zero j)⟩, ⟨by show (0 : Nat) ≤ 1000; omega, by show (0 : Nat) ≤ 500000; omega, fun j hj => absurd hj (Nat.not_lt_zero j)⟩⟩
end FF
namespace Go.Proofs.YtlpnggdghmccjaaDoor
open FF JJ CC MM WW BB
theorem zero_put : putF ⟨firstD, 0, [], []⟩ (digI zeroB, zeroB) = (⟨firstD, 0, [], [(digI zeroB, zeroB)]⟩, 0) := by
  have h1 : hasF ⟨firstD, 0, [], []⟩ (digI zeroB) = false := by
    unfold hasF
    rw [decide_eq_false (show ¬ digI zeroB = firstD from zero_apart)]; rfl
  have h2 : hasF ⟨firstD, 0, [], []⟩ (parI zeroB) = false := by
    unfold hasF
    rw [decide_eq_false (show ¬ parI zeroB = firstD from fun e => by
      have := congrArg ByteArray.size e
      rw [firstD_size] at this
      cases this)]; rfl
  rw [put_wait (by rw [h1]; simp [atI]) h2]
  rfl
theorem notab_of {w : World} (hT : Tabs w) : ∀ b, w.heap.size ≤ b → NoTab b := fun b hb => ⟨fun e => by have := hT.l1; omega, fun e => by have := hT.l2; omega, fun e => by have := hT.l3; omega⟩
end Go.Proofs.YtlpnggdghmccjaaDoor
end
section
open Go Go.RowKit
namespace FF
open JJ CC WW BB MM
/-- a block with its two slices -/
abbrev Bv := BlockD × Value × Value
def bd0 : BlockD := (((0, 0), ((0, ⟨#[]⟩), [])), [])
def vb0 : Bv := (bd0, .slice none 0 0, .slice none 0 0)
def encB (x : Bv) : List Value := [.int .i64 (viewI x.1), .int .i64 (propI x.1), .int .i64 (jvI x.1), .string (parI x.1), x.2.1, x.2.2]
def InnB (w : World) (x : Bv) : Prop := SigsAt w x.2.1 (sigsI x.1) ∧ ReqsAt w x.2.2 x.1.2
theorem InnB.later {w w' : World} {x : Bv} (h : InnB w x) (hb : Below w.heap.size w w') : InnB w' x := ⟨h.1.later hb, h.2.later hb⟩
/-- v is a slice of the blocks L -/
def BvAt (w : World) (v : Value) (L : List Bv) : Prop :=
  ∃ a0 cap, v = .slice a0 L.length cap ∧ (L = [] ∨ ∃ b off, a0 = some ⟨b, off, none⟩ ∧ b < w.heap.size ∧
    ∀ i, i < L.length → (∀ j u, (encB (L.getD i vb0))[j]? = some u → w.cell? ⟨b, off + i * 6 + j, none⟩ = some u) ∧ InnB w (L.getD i vb0))
theorem BvAt.later {w w' : World} {v : Value} {L : List Bv} (h : BvAt w v L) (hb : Below w.heap.size w w') : BvAt w' v L := by
  obtain ⟨a0, cap, rfl, h | ⟨b, off, rfl, hl, hc⟩⟩ := h
  · exact ⟨a0, cap, rfl, Or.inl h⟩
  · refine ⟨_, cap, rfl, Or.inr ⟨b, off, rfl, Nat.lt_of_lt_of_le hl hb.size, fun i hi => ?_⟩⟩
    obtain ⟨h1, h2⟩ := hc i hi
    exact ⟨fun j u hu => (hb.cell (p := ⟨b, off + i * 6 + j, none⟩) hl).trans (h1 j u hu), h2.later hb⟩
theorem bv_shape {w : World} {v : Value} {L : List Bv} (h : BvAt w v L) : ∃ a c, v = .slice a L.length c := by
  obtain ⟨a, c, rfl, _⟩ := h; exact ⟨a, c, rfl⟩
/-- where the blocks lie -/
theorem bv_at {w : World} {a0 : Option Addr} {n c : Nat} {L : List Bv} (h : BvAt w (.slice a0 n c) L) (i : Nat) (hi : i < L.length) : ∃ b off, a0 = some ⟨b, off, none⟩ ∧ b < w.heap.size ∧ n = L.length ∧
    ∀ wr, Below w.heap.size w wr → ∀ i, i < L.length → wr.cell? ⟨b, off + i * 6, none⟩ = some (.int .i64 (viewI (L.getD i vb0).1)) ∧ wr.cell? ⟨b, off + i * 6 + 1, none⟩ = some (.int .i64 (propI (L.getD i vb0).1)) ∧ wr.cell? ⟨b, off + i * 6 + 2, none⟩ = some (.int .i64 (jvI (L.getD i vb0).1)) ∧
      wr.cell? ⟨b, off + i * 6 + 3, none⟩ = some (.string (parI (L.getD i vb0).1)) ∧ wr.cell? ⟨b, off + i * 6 + 4, none⟩ = some (L.getD i vb0).2.1 ∧ wr.cell? ⟨b, off + i * 6 + 5, none⟩ = some (L.getD i vb0).2.2 ∧ InnB wr (L.getD i vb0) := by
  obtain ⟨a1, c1, he, h | ⟨b, off, h1, hl, hc⟩⟩ := h
  · subst h; simp at hi
  · injection he with e1 e2 _
    subst e1 h1
    refine ⟨b, off, rfl, hl, e2, fun wr hb i hi => ?_⟩
    obtain ⟨h1, h2⟩ := hc i hi
    have k : ∀ j u, (encB (L.getD i vb0))[j]? = some u → wr.cell? ⟨b, off + i * 6 + j, none⟩ = some u := fun j u hu => (hb.cell (p := ⟨b, off + i * 6 + j, none⟩) hl).trans (h1 j u hu)
    exact ⟨k 0 _ rfl, k 1 _ rfl, k 2 _ rfl, k 3 _ rfl, k 4 _ rfl, k 5 _ rfl, h2.later hb⟩
def cellsB (L : List Bv) : List Value := (L.map encB).flatten
theorem cellsB_snoc (L : List Bv) (x : Bv) : cellsB (L ++ [x]) = cellsB L ++ encB x := by unfold cellsB; rw [List.map_append, List.flatten_append]; simp
theorem cellsB_len (L : List Bv) : (cellsB L).length = L.length * 6 := by
  induction L with
  | nil => rfl
  | cons x r ih => show (encB x ++ cellsB r).length = _; rw [List.length_append, ih, List.length_cons]; simp [encB]; omega
theorem cellsB_at : ∀ (L : List Bv) (i j : Nat) (u : Value), i < L.length → (encB (L.getD i vb0))[j]? = some u → (cellsB L)[i * 6 + j]? = some u
  | [], i, j, u, h, _ => by simp at h
  | x :: r, 0, j, u, _, hu => by
    show (encB x ++ cellsB r)[0 * 6 + j]? = some u
    have hu' : (encB x)[j]? = some u := hu
    have hj : j < (encB x).length := (List.getElem?_eq_some_iff.1 hu').1
    rw [Nat.zero_mul, Nat.zero_add, List.getElem?_append_left hj]; exact hu'
  | x :: r, i + 1, j, u, h, hu => by
    show (encB x ++ cellsB r)[(i + 1) * 6 + j]? = some u
    have hx : (encB x).length = 6 := rfl
    rw [show (i + 1) * 6 + j = 6 + (i * 6 + j) by omega, List.getElem?_append_right (by omega), hx, Nat.add_sub_cancel_left]
    exact cellsB_at r i j u (by simpa using h) (by simpa [List.getD] using hu)
theorem bv_of_own {w : World} {B : Nat} {e : TypeId} {v : Value} {L : List Bv} (h : w.ownsRow B e 6 v L.length (cellsB L)) (hi : ∀ x ∈ L, InnB w x) : BvAt w v L := by
  rcases h.2 with ⟨rfl, h0⟩ | ⟨g, cap, cur, rfl, hg, hh, hn, hcm, hsz, htk⟩
  · exact ⟨none, 0, by rw [h0], Or.inl (List.eq_nil_of_length_eq_zero h0)⟩
  · have hcell : ∀ j u, j < L.length * 6 → (cellsB L)[j]? = some u → w.cell? ⟨g, j, none⟩ = some u := fun j u hj hu => by
      rw [← htk, List.getElem?_take_of_lt hj, Array.getElem?_toList] at hu
      unfold World.cell?; rw [hh]; simpa using hu
    refine ⟨_, cap, rfl, Or.inr ⟨g, 0, rfl, (Array.getElem?_eq_some_iff.1 hh).1, fun i hil => ⟨fun j u hu => ?_, ?_⟩⟩⟩
    · have hj : j < 6 := (List.getElem?_eq_some_iff.1 hu).1
      rw [Nat.zero_add]
      exact hcell _ _ (by omega) (cellsB_at L i j u hil hu)
    · exact hi _ (by rw [getD_at hil]; exact List.getElem_mem hil)
/-- v is a slice of threes of bytes -/
def TriAt (w : World) (v : Value) (l : List (Nat × Nat × Nat)) : Prop :=
  ∃ a0 cap, v = .slice a0 l.length cap ∧ (l = [] ∨ ∃ b off, a0 = some ⟨b, off, none⟩ ∧ b < w.heap.size ∧
    ∀ i, i < l.length → w.cell? ⟨b, off + i * 3, none⟩ = some (.int .u8 ((l.getD i (0, 0, 0)).1 : Int)) ∧ w.cell? ⟨b, off + i * 3 + 1, none⟩ = some (.int .u8 ((l.getD i (0, 0, 0)).2.1 : Int)) ∧ w.cell? ⟨b, off + i * 3 + 2, none⟩ = some (.int .u8 ((l.getD i (0, 0, 0)).2.2 : Int)))
theorem TriAt.later {w w' : World} {v : Value} {l : List (Nat × Nat × Nat)} (h : TriAt w v l) (hb : Below w.heap.size w w') : TriAt w' v l := by
  obtain ⟨a0, cap, rfl, h | ⟨b, off, rfl, hl, hc⟩⟩ := h
  · exact ⟨a0, cap, rfl, Or.inl h⟩
  · refine ⟨_, cap, rfl, Or.inr ⟨b, off, rfl, Nat.lt_of_lt_of_le hl hb.size, fun i hi => ?_⟩⟩
    obtain ⟨h1, h2, h3⟩ := hc i hi
    exact ⟨(hb.cell (p := ⟨b, off + i * 3, none⟩) hl).trans h1, (hb.cell (p := ⟨b, off + i * 3 + 1, none⟩) hl).trans h2, (hb.cell (p := ⟨b, off + i * 3 + 2, none⟩) hl).trans h3⟩
/-- one block more of a chain -/
def nextB (out : List BlockD) (i : Nat) (t : Nat × Nat × Nat) : BlockD :=
  let q := t.2.1 % (i + 1)
  let cv := if 0 < q then viewI (out.getD (q - 1) bd0) else 0
  let cd := if 0 < q then digI (out.getD (q - 1) bd0) else firstD
  (((cv + 1 + ((t.1 % 4 : Nat) : Int), 0), ((cv, cd), [])), [(((t.2.2 % 4 : Nat) : Int), 1 + (i : Int), ⟨#[]⟩)])
def chainL (l : List (Nat × Nat × Nat)) : Nat → List BlockD
  | 0 => []
  | i + 1 => chainL l i ++ [nextB (chainL l i) i (l.getD i (0, 0, 0))]
theorem chain_len (l : List (Nat × Nat × Nat)) : ∀ i, (chainL l i).length = i
  | 0 => rfl
  | i + 1 => by rw [chainL, List.length_append, chain_len l i]; rfl
theorem chain_views (l : List (Nat × Nat × Nat)) : ∀ (i j : Nat), 0 ≤ viewI ((chainL l i).getD j bd0) ∧ viewI ((chainL l i).getD j bd0) ≤ 4 * (i : Int)
  | 0, j => by simp [chainL, bd0, viewI]
  | i + 1, j => by
    rw [chainL]
    by_cases hj : j < i
    · rw [List.getD_eq_getElem?_getD, List.getElem?_append_left (by rw [chain_len]; exact hj), ← List.getD_eq_getElem?_getD]
      have := chain_views l i j
      omega
    · by_cases e : j = i
      · subst e
        rw [List.getD_eq_getElem?_getD, List.getElem?_append_right (by rw [chain_len]; exact Nat.le_refl _), chain_len, Nat.sub_self]
        show 0 ≤ viewI (nextB _ _ _) ∧ viewI (nextB _ _ _) ≤ _
        unfold nextB viewI
        simp only
        split
        · have h1 := chain_views l j ((l.getD j (0, 0, 0)).2.1 % (j + 1) - 1)
          unfold viewI at h1
          omega
        · omega
      · rw [List.getD_eq_getElem?_getD, List.getElem?_eq_none (by simp [chain_len]; omega)]
        simp [bd0, viewI]; omega
theorem chain_small (l : List (Nat × Nat × Nat)) : ∀ i, ∀ x ∈ chainL l i, SmallI x ∧ sigsI x = [] ∧ propI x = 0
  | 0, x, hx => by cases hx
  | i + 1, x, hx => by
    rcases List.mem_append.1 hx with hx | hx
    · exact chain_small l i x hx
    · obtain rfl : x = nextB (chainL l i) i (l.getD i (0, 0, 0)) := by simpa using hx
      refine ⟨⟨?_, ⟨by show (0 : Nat) ≤ 1000; omega, by show (0 : Nat) ≤ 500000; omega, fun j hj => absurd hj (Nat.not_lt_zero j)⟩, ⟨by show (1 : Nat) ≤ 1000; omega, by show (12 : Nat) ≤ 500000; omega, fun j hj => ?_⟩⟩, rfl, rfl⟩
      · unfold nextB parI
        simp only
        split
        · rw [show (digI _).size = 32 from digD_size _ _ _ _ _]; omega
        · rw [firstD_size]; omega
      · obtain rfl : j = 0 := by have : j < 1 := hj; omega
        show (0 : Nat) ≤ 500000; omega
theorem own_apart' {e e' : TypeId} {w : World} {B B' c c' : Nat} {v v' : Value} {n n' : Nat} {xs xs' : List Value} (h : w.ownsRow B e c v n xs) (h' : w.ownsRow B' e' c' v' n' xs') (hne : e ≠ e') : ∀ b, v'.ownBlock = some b → some b ≠ v.ownBlock := by
  intro b hb he
  rcases h.2 with ⟨rfl, _⟩ | ⟨g, cap, cur, rfl, _, hh, _⟩
  · cases he
  · rcases h'.2 with ⟨rfl, _⟩ | ⟨g', cap', cur', rfl, _, hh', _⟩
    · cases hb
    · simp only [Value.ownBlock, Option.some.injEq] at hb he
      have hgg : g' = g := by omega
      rw [hgg, hh] at hh'
      injection hh' with hh'
      injection hh' with _ h2 _
      exact hne h2
/-- the chain so far: a row of blocks, each one's request in a row of its own -/
structure ChSt (w0 : World) (tB tQ : TypeId) (L : List Bv) (x : Value) (wr : World) : Prop where
  below : Below w0.heap.size w0 wr
  row : wr.ownsRow w0.heap.size tB 6 x L.length (cellsB L)
  reqs : ∀ y ∈ L, y.2.1 = .slice none 0 0 ∧ sigsI y.1 = [] ∧ wr.ownsRow w0.heap.size tQ 3 y.2.2 y.1.2.length (cellsR y.1.2)
theorem ChSt.on {w0 : World} {tB tQ : TypeId} {L : List Bv} {x : Value} {wr w2 : World} (h : ChSt w0 tB tQ L x wr) (hb : Below wr.heap.size wr w2) : ChSt w0 tB tQ L x w2 :=
  ⟨h.below.trans (hb.mono h.below.size), row_keep h.row fun c hc => hb.block c (h.row.lt c hc).2, fun y hy => ⟨(h.reqs y hy).1, (h.reqs y hy).2.1, row_keep (h.reqs y hy).2.2 fun c hc => hb.block c ((h.reqs y hy).2.2.lt c hc).2⟩⟩
theorem ChSt.inn {w0 : World} {tB tQ : TypeId} {L : List Bv} {x : Value} {wr : World} (h : ChSt w0 tB tQ L x wr) : ∀ y ∈ L, InnB wr y := fun y hy => by
  obtain ⟨h1, h2, h3⟩ := h.reqs y hy
  exact ⟨by rw [h1, h2]; exact ⟨none, 0, rfl, Or.inl rfl⟩, reqs_of_own h3⟩
theorem ChSt.bv {w0 : World} {tB tQ : TypeId} {L : List Bv} {x : Value} {wr : World} (h : ChSt w0 tB tQ L x wr) : BvAt wr x L := bv_of_own h.row h.inn
theorem ChSt.shape {w0 : World} {tB tQ : TypeId} {L : List Bv} {x : Value} {wr : World} (h : ChSt w0 tB tQ L x wr) : ∃ a c, x = .slice a L.length c := bv_shape h.bv
theorem ChSt.add {w0 : World} {tB tQ : TypeId} (ht : tB ≠ tQ) {L : List Bv} {x u' : Value} {wr w3 : World} (h : ChSt w0 tB tQ L x wr) (y : Bv) (hy : y.2.1 = .slice none 0 0 ∧ sigsI y.1 = [] ∧ wr.ownsRow w0.heap.size tQ 3 y.2.2 y.1.2.length (cellsR y.1.2))
    (hr : w3.ownsRow w0.heap.size tB 6 u' (L.length + 1) (cellsB L ++ encB y)) (hg : wr.grownBy w3 x.ownBlock) : ChSt w0 tB tQ (L ++ [y]) u' w3 := by
  have hk : ∀ z : Bv, wr.ownsRow w0.heap.size tQ 3 z.2.2 z.1.2.length (cellsR z.1.2) → w3.ownsRow w0.heap.size tQ 3 z.2.2 z.1.2.length (cellsR z.1.2) := fun z hz =>
    row_keep hz fun c hc => hg.block c (hz.lt c hc).2 (own_apart' h.row hz ht c hc)
  refine ⟨h.below.grown hg h.below.size fun k hk => (h.row.lt k hk).1, by rw [List.length_append, List.length_singleton, cellsB_snoc]; exact hr, fun z hz => ?_⟩
  rcases List.mem_append.1 hz with hz | hz
  · exact ⟨(h.reqs z hz).1, (h.reqs z hz).2.1, hk z (h.reqs z hz).2.2⟩
  · obtain rfl : z = y := by simpa using hz
    exact ⟨hy.1, hy.2.1, hk z hy.2.2⟩
theorem ChSt.upd {w0 : World} {tB tQ : TypeId} {L : List Bv} {x : Value} {wr w2 : World} {y : Nat} (h : ChSt w0 tB tQ L x wr) (hu : Upd y wr w2) (hy : w0.heap.size ≤ y) (h1 : ∀ c, x.ownBlock = some c → c ≠ y) (h2 : ∀ z ∈ L, ∀ c, z.2.2.ownBlock = some c → c ≠ y) : ChSt w0 tB tQ L x w2 :=
  ⟨h.below.trans (hu.below hy), row_keep h.row fun c hc => hu.block c (h1 c hc), fun z hz => ⟨(h.reqs z hz).1, (h.reqs z hz).2.1, row_keep (h.reqs z hz).2.2 fun c hc => hu.block c (h2 z hz c hc)⟩⟩
theorem bmap_getD (L : List Bv) (i : Nat) (h : i < L.length) : (L.map Prod.fst).getD i bd0 = (L.getD i vb0).1 := by
  simp [List.getD, List.getElem?_eq_getElem h]
theorem gset3 {w : World} {a : Nat} {f : Nat → Value} (h : Blk w a 3 f) (u0 u1 u2 : Value) :
    Blk (((w.setCell ⟨a, 0, none⟩ u0).setCell ⟨a, 1, none⟩ u1).setCell ⟨a, 2, none⟩ u2) a 3 (rowL [u0, u1, u2]) ∧ Upd a w (((w.setCell ⟨a, 0, none⟩ u0).setCell ⟨a, 1, none⟩ u1).setCell ⟨a, 2, none⟩ u2) := by
  refine ⟨(((h.set 0 u0).set 1 u1).set 2 u2).congr _ fun i hi => ?_, (((Upd.refl a w).trans (Upd.set _ _ _ _)).trans (Upd.set _ _ _ _)).trans (Upd.set _ _ _ _)⟩
  match i, hi with
  | 0, _ => rfl
  | 1, _ => rfl
  | 2, _ => rfl
theorem ChSt.nil (w : World) (tB tQ : TypeId) : ChSt w tB tQ [] (.slice none 0 0) w := ⟨Below.refl _ _, World.ownsRow_nil _ _ _ _, fun y hy => by cases hy⟩
end FF
namespace Go.Proofs.YtlpnggdghmccjaaDoor
open FF JJ CC MM WW BB
set_option maxRecDepth 100000 in
set_option maxHeartbeats 8000000 in
theorem chain_any (l : List (Nat × Nat × Nat)) (v : Value) (w : World) (hv : TriAt w v l) (hb : ∀ i, (l.getD i (0, 0, 0)).1 < 256 ∧ (l.getD i (0, 0, 0)).2.1 < 256 ∧ (l.getD i (0, 0, 0)).2.2 < 256) (hl : l.length ≤ 1000000) :
    Calls Tryd.prog 12 #[v] w fun e w' => ∃ u, e = .returned u ∧ ∃ L, L.map Prod.fst = chainL l (min l.length 40) ∧ BvAt w' u L ∧ Below w.heap.size w w' := by
  have HV := Lib.hid hv
  have HB := Lib.hid hb
  have HL := Lib.hid hl
  obtain ⟨a0, cap, rfl, hx⟩ := hv
  have HX := Lib.hid hx
  clear hb hl hx
  go_enter Tryd.func12, Tryd.ntmps12
  go_wp2_with fail
  go_loopw [3, 4] (fun x y wr => ∃ (i : Nat) (L : List Bv), i ≤ min l.length 40 ∧ y = .int .i64 (i : Int) ∧ L.map Prod.fst = chainL l i ∧ ChSt w 39 63 L x wr) (fun _ y _ => 40 - (intOf y).toNat)
  case atStart => exact ⟨0, [], Nat.zero_le _, rfl, rfl, ChSt.nil _ _ _⟩
  case round =>
    obtain ⟨i, L, hi, rfl, hmap, hst⟩ := hrel
    have HST := Lib.hid hst
    have HMAP := Lib.hid hmap
    have HLN := Lib.hid (show L.length = i by have := congrArg List.length hmap; rwa [List.length_map, chain_len] at this)
    have i0' : (0 : Int) ≤ (i : Int) := by omega
    have ib : (i : Int) ≤ 40 := by omega
    obtain ⟨xa, xc, rfl⟩ := hst.shape
    clear hst hmap
    by_cases h1 : i < l.length
    · have h1' : (i : Int) < (l.length : Int) := by omega
      by_cases h2 : i < 40
      · have h2' : (i : Int) < 40 := by omega
        have HI1 := Lib.hid h1
        have HI2 := Lib.hid h2
        obtain ⟨tb, toff, rfl, hbw, hcell⟩ : ∃ b off, a0 = some ⟨b, off, none⟩ ∧ b < w.heap.size ∧ _ := by
          rcases HX.out with h | h
          · subst h; simp at h1
          · exact h
        have HT := Lib.hid (fun (wx : World) (hb : Below w.heap.size w wx) => show wx.cell? ⟨tb, toff + i * 3, none⟩ = some (.int .u8 ((l.getD i (0, 0, 0)).1 : Int)) ∧ wx.cell? ⟨tb, toff + i * 3 + 1, none⟩ = some (.int .u8 ((l.getD i (0, 0, 0)).2.1 : Int)) ∧ wx.cell? ⟨tb, toff + i * 3 + 2, none⟩ = some (.int .u8 ((l.getD i (0, 0, 0)).2.2 : Int)) from by
          obtain ⟨k1, k2, k3⟩ := hcell i HI1.out
          exact ⟨(hb.cell (p := ⟨tb, toff + i * 3, none⟩) hbw).trans k1, (hb.cell (p := ⟨tb, toff + i * 3 + 1, none⟩) hbw).trans k2, (hb.cell (p := ⟨tb, toff + i * 3 + 2, none⟩) hbw).trans k3⟩)
        obtain ⟨⟨ta, tc, td⟩, ht⟩ : ∃ t, l.getD i (0, 0, 0) = t := ⟨_, rfl⟩
        have HBT := Lib.hid (HB.out i)
        have HTT := Lib.hid ht
        rw [ht] at HT HBT
        obtain ⟨q, hq⟩ : ∃ q, tc % (i + 1) = q := ⟨_, rfl⟩
        have HQ := Lib.hid hq
        have e1 : ((tc : Nat) : Int).tmod ((i : Int) + 1) = (q : Int) := by rw [← hq, Int.tmod_eq_emod_of_nonneg (by omega)]; simp
        obtain ⟨k1, k2, k3⟩ := HT.out wr HST.out.below
        have hw1 : IntKind.i64.wrap ((i : Int) + 1) = (i : Int) + 1 := by rw [IntKind.wrap_i64]; omega
        have hw2 : IntKind.i64.wrap ((tc : Nat) : Int) = (tc : Int) := by rw [IntKind.wrap_i64]; have := HBT.out.2.1; simp only at this; omega
        have hne : ((i : Int) + 1 == 0) = false := by simp; omega
        have HE1 := Lib.hid e1
        clear h1 h2 hi hbw hcell ht hq
        go_wp2_with fail
        refine (rfirst_any wr).mono ?_
        rintro e w2 ⟨rfl, hb2⟩
        have X2 := Lib.hid (HST.out.on hb2)
        have A6 := Lib.hid ((Below.refl w2.heap.size w2).alloc (Nat.le_refl _) (.cells #[.int .i64 0, .string firstD, .slice none 0 0] 36))
        have X3 := Lib.hid (X2.out.on A6.out)
        have L3 := Lib.hid (show Blk (w2.alloc (.cells #[.int .i64 0, .string firstD, .slice none 0 0] 36)) w2.heap.size 3 (rowL [.int .i64 0, .string firstD, .slice none 0 0]) from Blk.new' rfl rfl)
        clear hb2 k1 k2 k3
        go_upto_region 7 with fail
        obtain ⟨y6, hy6⟩ : ∃ y6, w2.heap.size = y6 := ⟨_, rfl⟩
        obtain ⟨w3, hw3⟩ : ∃ w3, w2.alloc (.cells #[.int .i64 0, .string firstD, .slice none 0 0] 36) = w3 := ⟨_, rfl⟩
        rw [hw3] at A6 X3 L3 ⊢
        rw [hy6] at L3 ⊢
        have Y6 := Lib.hid (show w.heap.size ≤ y6 by rw [← hy6]; exact X2.out.below.size)
        have Y7 := Lib.hid (show ∀ c, (Value.slice xa L.length xc).ownBlock = some c → c < y6 from fun c hc => by rw [← hy6]; exact (X2.out.row.lt c hc).2)
        have Y8 := Lib.hid (show ∀ z ∈ L, ∀ c, z.2.2.ownBlock = some c → c < y6 from fun z hz c hc => by rw [← hy6]; exact ((X2.out.reqs z hz).2.2.lt c hc).2)
        obtain ⟨cv, hcv⟩ : ∃ cv, (if 0 < q then viewI ((chainL l i).getD (q - 1) bd0) else 0) = cv := ⟨_, rfl⟩
        obtain ⟨cd, hcd⟩ : ∃ cd, (if 0 < q then digI ((chainL l i).getD (q - 1) bd0) else firstD) = cd := ⟨_, rfl⟩
        have HCV := Lib.hid hcv
        have HCD := Lib.hid hcd
        clear hw3 hy6 hcv hcd
        go_upto_if 30 with fail
        go_cut [6] from 8 to 71 (fun s6 wx => s6 = .pointer (some ⟨y6, 0, none⟩) ∧ ChSt w 39 63 L (.slice xa L.length xc) wx ∧ Blk wx y6 3 (rowL [.int .i64 cv, .string cd, .slice none 0 0]))
        case first =>
          by_cases hq0 : 0 < q
          · have hq0' : (0 : Int) < (q : Int) := by omega
            obtain ⟨qq, rfl⟩ : ∃ qq, q = qq + 1 := ⟨q - 1, by omega⟩
            have hql : qq < L.length := by
              have h3 : tc % (i + 1) < i + 1 := Nat.mod_lt _ (by omega)
              have := HLN.out; have := HQ.out; omega
            obtain ⟨ob, ooff, rfl, hob, _, hoc⟩ := bv_at X3.out.bv qq hql
            have HOC := Lib.hid (fun wx hb => hoc wx hb qq hql)
            obtain ⟨P, hP⟩ : ∃ P, L.getD qq vb0 = P := ⟨_, rfl⟩
            rw [hP] at HOC
            have HPC := Lib.hid (show (chainL l i).getD qq bd0 = P.1 by rw [← HMAP.out, bmap_getD L qq hql, hP])
            have HPM := Lib.hid (show P.1 ∈ chainL l i by rw [← HPC.out, getD_at (by rw [chain_len]; have := HLN.out; omega)]; exact List.getElem_mem _)
            have HPS := Lib.hid (chain_small l i P.1 HPM.out)
            have e2 : cv = viewI P.1 := by rw [← HCV.out, if_pos hq0, show qq + 1 - 1 = qq from rfl, HPC.out]
            have e3 : cd = digI P.1 := by rw [← HCD.out, if_pos hq0, show qq + 1 - 1 = qq from rfl, HPC.out]
            have l1 : (0 : Int) ≤ (qq : Int) := by omega
            have l2 : (qq : Int) < (L.length : Int) := by omega
            have hw3 : IntKind.i64.wrap ((qq : Int) + 1 - 1) = (qq : Int) := by rw [IntKind.wrap_i64]; have := HLN.out; omega
            have hw5 : IntKind.i64.wrap (qq : Int) = (qq : Int) := by rw [IntKind.wrap_i64]; have := HLN.out; omega
            have hw4 : IntKind.i64.wrap (((qq + 1 : Nat) : Int) - 1) = (qq : Int) := by rw [IntKind.wrap_i64]; have := HLN.out; omega
            clear hob hoc hP hq0
            obtain ⟨pv, hpv⟩ : ∃ pv, viewI P.1 = pv := ⟨_, rfl⟩
            obtain ⟨pp, hpp⟩ : ∃ pp, propI P.1 = pp := ⟨_, rfl⟩
            obtain ⟨pj, hpj⟩ : ∃ pj, jvI P.1 = pj := ⟨_, rfl⟩
            obtain ⟨pk, hpk⟩ : ∃ pk, parI P.1 = pk := ⟨_, rfl⟩
            obtain ⟨ps, hps⟩ : ∃ ps, P.2.1 = ps := ⟨_, rfl⟩
            obtain ⟨pr, hpr⟩ : ∃ pr, P.2.2 = pr := ⟨_, rfl⟩
            rw [hpv, hpp, hpj, hpk, hps, hpr] at HOC
            rw [hpv] at e2
            have HDG := Lib.hid (show digD pv pp pj pk P.1.2 = cd by rw [e3, ← hpv, ← hpp, ← hpj, ← hpk]; rfl)
            have HPK := Lib.hid (show pk.size ≤ 1000 by rw [← hpk]; exact HPS.out.1.1)
            have HPI := Lib.hid (show ∀ wx, Below w3.heap.size w3 wx → SigsAt wx ps (sigsI P.1) ∧ ReqsAt wx pr P.1.2 from fun wx hb => by
              have h := (HOC.out wx hb).2.2.2.2.2.2
              exact ⟨hps ▸ h.1, hpr ▸ h.2⟩)
            subst e2
            clear e3 hpv hpp hpj hpk hps hpr
            go_wp2_with fail
            refine planE_abs (fun wx => Below w3.heap.size w3 wx) 13 [(true, 0), (true, 1), (true, 2), (true, 3), (true, 4), (true, 5), (true, 6), (true, 7), (true, 8), (true, 9), (true, 10), (false, 11), (true, 12), (false, 13)] (by kernel_rfl) (by kernel_rfl) (fun _ _ d _ _ h => by cases d <;> exact h) fun w4 hs4 => ⟨hs4.below _, ?_⟩
            have X4 := Lib.hid (show Below w3.heap.size w3 w4 from hs4.below _)
            clear hs4
            iterate 11 (refine pe_run _ ?_ rfl rfl ?_ ?_; rotate_left; (focus (intro w' hS; obtain ⟨d0, d1, d2, d3, d4, d5, _⟩ := HOC.out w' hS; go_simp; exact rfl)); simp only [Act.put, List.setIfInBounds_toArray, List.set_cons_zero, List.set_cons_succ, List.getElem_toArray, List.getElem_cons_zero, List.getElem_cons_succ])
            refine pe_call (R := fun u w' => u = .string cd ∧ Below w4.heap.size w4 w') _ rfl rfl (by go_simp) ((rbdigest_any cv pp pj pk ps pr (sigsI P.1) P.1.2 w4 (HPI.out w4 X4.out).1 (HPI.out w4 X4.out).2 HPK.out HPS.out.1.2.1 HPS.out.1.2.2).mono fun e w' h => ⟨.string cd, by rw [h.1, HDG.out], rfl, h.2⟩) (fun u w' h => X4.out.trans (h.2.mono X4.out.size)) fun u w5 hr => ?_
            obtain ⟨rfl, hb5⟩ := hr
            have X5 := Lib.hid (X4.out.trans (hb5.mono X4.out.size))
            clear hb5
            simp only [Act.put, List.setIfInBounds_toArray, List.set_cons_zero, List.set_cons_succ, List.getElem_toArray, List.getElem_cons_zero, List.getElem_cons_succ]
            refine pe_run _ (.agg #[.int .i64 cv, .string cd, .slice none 0 0]) rfl rfl (fun w' hS => by go_simp) ?_
            simp only [Act.put, List.setIfInBounds_toArray, List.set_cons_zero, List.set_cons_succ, List.getElem_toArray, List.getElem_cons_zero, List.getElem_cons_succ]
            have L5 := Lib.hid (L3.out.below X5.out L3.out.lt)
            have v0 := L5.out.get 0 (by omega)
            have v1 := L5.out.get 1 (by omega)
            have v2 := L5.out.get 2 (by omega)
            have z0 := L5.out.frz 0
            have z1 := L5.out.frz 1
            have z2 := L5.out.frz 2
            refine pe_last _ rfl ?_
            simp only [List.getElem_toArray, List.getElem_cons_zero, List.getElem_cons_succ]
            go_wp2_with fail
            clear v0 v1 v2 z0 z1 z2
            go_meet
            obtain ⟨xi, ui⟩ := gset3 L5.out (.int .i64 cv) (.string cd) (.slice none 0 0)
            exact ⟨rfl, (X3.out.on X5.out).upd ui Y6.out (fun c hc => Nat.ne_of_lt (Y7.out c hc)) (fun z hz c hc => Nat.ne_of_lt (Y8.out z hz c hc)), xi⟩
          · have hq0' : ¬ (0 : Int) < (q : Int) := by omega
            have e2 : cv = 0 := by rw [← HCV.out, if_neg hq0]
            have e3 : cd = firstD := by rw [← HCD.out, if_neg hq0]
            subst e2 e3
            go_wp2_with fail
            go_meet
            exact ⟨rfl, X3.out, L3.out⟩
        case rest =>
          obtain ⟨rfl, hx8, hl8⟩ := hcut
          have X8 := Lib.hid hx8
          have L8 := Lib.hid hl8
          clear hx8 hl8
          obtain ⟨m1, hm1⟩ : ∃ m1, ta % 4 = m1 := ⟨_, rfl⟩
          obtain ⟨m2, hm2⟩ : ∃ m2, td % 4 = m2 := ⟨_, rfl⟩
          have HM1 := Lib.hid hm1
          have HM2 := Lib.hid hm2
          have HCB := Lib.hid (show 0 ≤ cv ∧ cv ≤ 160 by
            rw [← HCV.out]
            split
            · have := chain_views l i (q - 1)
              have := HI2.out
              omega
            · omega)
          have e4 : ((ta : Nat) : Int).tmod 4 = (m1 : Int) := by rw [← hm1, Int.tmod_eq_emod_of_nonneg (by omega)]; simp
          have e5 : ((td : Nat) : Int).tmod 4 = (m2 : Int) := by rw [← hm2, Int.tmod_eq_emod_of_nonneg (by omega)]; simp
          have hwa : IntKind.i64.wrap (cv + 1) = cv + 1 := by rw [IntKind.wrap_i64]; have := HCB.out; omega
          have hwb : IntKind.i64.wrap (m1 : Int) = (m1 : Int) := by rw [IntKind.wrap_i64]; omega
          have hwd : IntKind.i64.wrap (m2 : Int) = (m2 : Int) := by rw [IntKind.wrap_i64]; omega
          have hwe : IntKind.i64.wrap (1 + (i : Int)) = 1 + (i : Int) := by rw [IntKind.wrap_i64]; omega
          have hwf : IntKind.u8.wrap (m1 : Int) = (m1 : Int) := by rw [IntKind.wrap_u8]; omega
          have hwg : IntKind.u8.wrap (m2 : Int) = (m2 : Int) := by rw [IntKind.wrap_u8]; omega
          obtain ⟨vw, hvw⟩ : ∃ vw, cv + 1 + (m1 : Int) = vw := ⟨_, rfl⟩
          have HVW := Lib.hid hvw
          have hwh : IntKind.i64.wrap (cv + 1 + (m1 : Int)) = vw := by rw [← hvw, IntKind.wrap_i64]; have := HCB.out; omega
          clear hm1 hm2 hvw
          go_upto_region 9 with fail
          go_cut [7] from 8 to 71 (fun s7 wx => ∃ y z, s7 = .pointer (some ⟨y, 0, none⟩) ∧ Below wc.heap.size wc wx ∧ Blk wx y 6 (rowL [.int .i64 vw, .int .i64 0, .int .i64 cv, .string cd, .slice none 0 0, .slice (some ⟨z, 0, none⟩) 1 1]) ∧ wx.ownsRow w.heap.size 63 3 (.slice (some ⟨z, 0, none⟩) 1 1) 1 [.int .i64 (m2 : Int), .int .i64 (1 + (i : Int)), .string ⟨#[]⟩])
          case first =>
            go_wp2_with fail
            refine crossE_abs (fun wx => Below wc.heap.size wc wx) 25 [0, 1, 2, 3, 4, 5, 6, 7, 8, 9, 10, 11, 12, 13, 14, 15, 16, 17, 18, 19, 20, 21] 22 24 [(true, 23), (false, 24), (false, 25)] [(false, 22), (true, 23), (false, 25)] (by kernel_rfl) (by kernel_rfl) (fun _ _ d _ _ h => by cases d <;> exact h) fun w9 hs9 => ⟨hs9.below _, ?_⟩
            have X9 := Lib.hid (show Below wc.heap.size wc w9 from hs9.below _)
            clear hs9
            iterate 22 (refine pre_run _ ?_ rfl rfl ?_ ?_; rotate_left; (focus (intro w' hS; obtain ⟨k1, k2, k3⟩ := HT.out w' (X8.out.below.trans (hS.mono X8.out.below.size)); have hcb := L8.out.below hS L8.out.lt; have d0 : _ = some (Value.int .i64 cv) := hcb.get 0 (by omega); have d1 : _ = some (Value.string cd) := hcb.get 1 (by omega); have d2 : _ = some (Value.slice none 0 0) := hcb.get 2 (by omega); clear hcb; go_simp; exact rfl)); simp only [Act.put, List.setIfInBounds_toArray, List.set_cons_zero, List.set_cons_succ, List.getElem_toArray, List.getElem_cons_zero, List.getElem_cons_succ])
            refine pre_end ⟨?_, ?_⟩
            · obtain ⟨z, hz⟩ : ∃ z, w9.heap.size = z := ⟨_, rfl⟩
              have BZ := Lib.hid ((Below.refl w9.heap.size w9).alloc (Nat.le_refl _) (.cells #[.int .i64 (m2 : Int), .int .i64 (1 + (i : Int)), .string ⟨#[]⟩] 63))
              have X10 := Lib.hid (X9.out.trans (BZ.out.mono X9.out.size))
              have ZL := Lib.hid (show wc.heap.size ≤ z by rw [← hz]; exact X9.out.size)
              have RZ := Lib.hid (show (w9.alloc (.cells #[.int .i64 (m2 : Int), .int .i64 (1 + (i : Int)), .string ⟨#[]⟩] 63)).ownsRow w.heap.size 63 3 (.slice (some ⟨z, 0, none⟩) 1 1) 1 [.int .i64 (m2 : Int), .int .i64 (1 + (i : Int)), .string ⟨#[]⟩] from by
                rw [← hz]
                exact ⟨rfl, Or.inr ⟨_, 1, #[.int .i64 (m2 : Int), .int .i64 (1 + (i : Int)), .string ⟨#[]⟩], rfl, Nat.le_trans X8.out.below.size X9.out.size, by show (Array.push _ _)[_]? = _; simp, Nat.le_refl _, by unfold maxLen; omega, rfl, rfl⟩⟩)
              refine pe_value (w' := w9.alloc (.cells #[.int .i64 (m2 : Int), .int .i64 (1 + (i : Int)), .string ⟨#[]⟩] 63)) _ (.slice (some ⟨z, 0, none⟩) 1 1) rfl rfl (by rw [← hz]; go_simp) X10.out ?_
              generalize w9.alloc (.cells #[.int .i64 (m2 : Int), .int .i64 (1 + (i : Int)), .string ⟨#[]⟩] 63) = w10 at *
              simp only [Act.put, List.setIfInBounds_toArray, List.set_cons_zero, List.set_cons_succ, List.getElem_toArray, List.getElem_cons_zero, List.getElem_cons_succ]
              clear hz
              refine pe_run _ (.agg #[.int .i64 vw, .int .i64 0, .int .i64 cv, .string cd, .slice none 0 0, .slice (some ⟨z, 0, none⟩) 1 1]) rfl rfl (fun w' hS => by go_simp) ?_
              simp only [Act.put, List.setIfInBounds_toArray, List.set_cons_zero, List.set_cons_succ, List.getElem_toArray, List.getElem_cons_zero, List.getElem_cons_succ]
              have BY := Lib.hid ((Below.refl w10.heap.size w10).alloc (Nat.le_refl _) (.cells #[.int .i64 0, .int .i64 0, .int .i64 0, .string ⟨#[]⟩, .slice none 0 0, .slice none 0 0] 39))
              have X11 := Lib.hid (X10.out.trans (BY.out.mono X10.out.size))
              obtain ⟨y, hy⟩ : ∃ y, w10.heap.size = y := ⟨_, rfl⟩
              have YL := Lib.hid (show wc.heap.size ≤ y by rw [← hy]; exact X10.out.size)
              have XI := Lib.hid (show Blk (w10.alloc (.cells #[.int .i64 0, .int .i64 0, .int .i64 0, .string ⟨#[]⟩, .slice none 0 0, .slice none 0 0] 39)) y 6 (rowL [.int .i64 0, .int .i64 0, .int .i64 0, .string ⟨#[]⟩, .slice none 0 0, .slice none 0 0]) from Blk.new' hy.symm rfl)
              refine pe_value (w' := w10.alloc (.cells #[.int .i64 0, .int .i64 0, .int .i64 0, .string ⟨#[]⟩, .slice none 0 0, .slice none 0 0] 39)) _ (.pointer (some ⟨y, 0, none⟩)) rfl rfl (by rw [← hy]; go_simp) X11.out ?_
              have YW := Lib.hid (show y = w10.heap.size from hy.symm)
              generalize w10.alloc (.cells #[.int .i64 0, .int .i64 0, .int .i64 0, .string ⟨#[]⟩, .slice none 0 0, .slice none 0 0] 39) = w11 at *
              simp only [Act.put, List.setIfInBounds_toArray, List.set_cons_zero, List.set_cons_succ, List.getElem_toArray, List.getElem_cons_zero, List.getElem_cons_succ]
              clear hy
              have RY := Lib.hid (show w11.ownsRow w.heap.size 63 3 (.slice (some ⟨z, 0, none⟩) 1 1) 1 [.int .i64 (m2 : Int), .int .i64 (1 + (i : Int)), .string ⟨#[]⟩] from row_keep RZ.out fun c hc => BY.out.block c (RZ.out.lt c hc).2)
              have v0 := XI.out.get 0 (by omega)
              have v1 := XI.out.get 1 (by omega)
              have v2 := XI.out.get 2 (by omega)
              have v3 := XI.out.get 3 (by omega)
              have v4 := XI.out.get 4 (by omega)
              have v5 := XI.out.get 5 (by omega)
              have z0 := XI.out.frz 0
              have z1 := XI.out.frz 1
              have z2 := XI.out.frz 2
              have z3 := XI.out.frz 3
              have z4 := XI.out.frz 4
              have z5 := XI.out.frz 5
              refine pe_last _ rfl ?_
              simp only [List.getElem_toArray, List.getElem_cons_zero, List.getElem_cons_succ]
              go_wp2_with fail
              clear v0 v1 v2 v3 v4 v5 z0 z1 z2 z3 z4 z5
              go_meet
              obtain ⟨xi, ui⟩ := set6 XI.out (.int .i64 vw) (.int .i64 0) (.int .i64 cv) (.string cd) (.slice none 0 0) (.slice (some ⟨z, 0, none⟩) 1 1)
              refine ⟨y, z, rfl, X11.out.trans (ui.below YL.out), xi, ?_⟩
              exact row_keep RY.out fun c hc => ui.block c (by have h0 : z = c := (by simpa [Value.ownBlock] using hc); have h1 := (RZ.out.lt z rfl).2; have h2 := YW.out; omega)
            · have BY := Lib.hid ((Below.refl w9.heap.size w9).alloc (Nat.le_refl _) (.cells #[.int .i64 0, .int .i64 0, .int .i64 0, .string ⟨#[]⟩, .slice none 0 0, .slice none 0 0] 39))
              have X10 := Lib.hid (X9.out.trans (BY.out.mono X9.out.size))
              obtain ⟨y, hy⟩ : ∃ y, w9.heap.size = y := ⟨_, rfl⟩
              have YL := Lib.hid (show wc.heap.size ≤ y by rw [← hy]; exact X9.out.size)
              have XI := Lib.hid (show Blk (w9.alloc (.cells #[.int .i64 0, .int .i64 0, .int .i64 0, .string ⟨#[]⟩, .slice none 0 0, .slice none 0 0] 39)) y 6 (rowL [.int .i64 0, .int .i64 0, .int .i64 0, .string ⟨#[]⟩, .slice none 0 0, .slice none 0 0]) from Blk.new' hy.symm rfl)
              refine pe_value (w' := w9.alloc (.cells #[.int .i64 0, .int .i64 0, .int .i64 0, .string ⟨#[]⟩, .slice none 0 0, .slice none 0 0] 39)) _ (.pointer (some ⟨y, 0, none⟩)) rfl rfl (by rw [← hy]; go_simp) X10.out ?_
              have YW := Lib.hid (show y = w9.heap.size from hy.symm)
              generalize w9.alloc (.cells #[.int .i64 0, .int .i64 0, .int .i64 0, .string ⟨#[]⟩, .slice none 0 0, .slice none 0 0] 39) = w10 at *
              simp only [Act.put, List.setIfInBounds_toArray, List.set_cons_zero, List.set_cons_succ, List.getElem_toArray, List.getElem_cons_zero, List.getElem_cons_succ]
              clear hy
              obtain ⟨z, hz⟩ : ∃ z, w10.heap.size = z := ⟨_, rfl⟩
              have BZ := Lib.hid ((Below.refl w10.heap.size w10).alloc (Nat.le_refl _) (.cells #[.int .i64 (m2 : Int), .int .i64 (1 + (i : Int)), .string ⟨#[]⟩] 63))
              have X11 := Lib.hid (X10.out.trans (BZ.out.mono X10.out.size))
              have ZL := Lib.hid (show wc.heap.size ≤ z by rw [← hz]; exact X10.out.size)
              have RZ := Lib.hid (show (w10.alloc (.cells #[.int .i64 (m2 : Int), .int .i64 (1 + (i : Int)), .string ⟨#[]⟩] 63)).ownsRow w.heap.size 63 3 (.slice (some ⟨z, 0, none⟩) 1 1) 1 [.int .i64 (m2 : Int), .int .i64 (1 + (i : Int)), .string ⟨#[]⟩] from by
                rw [← hz]
                exact ⟨rfl, Or.inr ⟨_, 1, #[.int .i64 (m2 : Int), .int .i64 (1 + (i : Int)), .string ⟨#[]⟩], rfl, Nat.le_trans X8.out.below.size X10.out.size, by show (Array.push _ _)[_]? = _; simp, Nat.le_refl _, by unfold maxLen; omega, rfl, rfl⟩⟩)
              have ZW := Lib.hid (show z = w10.heap.size from hz.symm)
              refine pe_value (w' := w10.alloc (.cells #[.int .i64 (m2 : Int), .int .i64 (1 + (i : Int)), .string ⟨#[]⟩] 63)) _ (.slice (some ⟨z, 0, none⟩) 1 1) rfl rfl (by rw [← hz]; go_simp) X11.out ?_
              generalize w10.alloc (.cells #[.int .i64 (m2 : Int), .int .i64 (1 + (i : Int)), .string ⟨#[]⟩] 63) = w11 at *
              simp only [Act.put, List.setIfInBounds_toArray, List.set_cons_zero, List.set_cons_succ, List.getElem_toArray, List.getElem_cons_zero, List.getElem_cons_succ]
              clear hz
              refine pe_run _ (.agg #[.int .i64 vw, .int .i64 0, .int .i64 cv, .string cd, .slice none 0 0, .slice (some ⟨z, 0, none⟩) 1 1]) rfl rfl (fun w' hS => by go_simp) ?_
              simp only [Act.put, List.setIfInBounds_toArray, List.set_cons_zero, List.set_cons_succ, List.getElem_toArray, List.getElem_cons_zero, List.getElem_cons_succ]
              have XJ := Lib.hid (XI.out.below BZ.out XI.out.lt)
              have v0 := XJ.out.get 0 (by omega)
              have v1 := XJ.out.get 1 (by omega)
              have v2 := XJ.out.get 2 (by omega)
              have v3 := XJ.out.get 3 (by omega)
              have v4 := XJ.out.get 4 (by omega)
              have v5 := XJ.out.get 5 (by omega)
              have z0 := XJ.out.frz 0
              have z1 := XJ.out.frz 1
              have z2 := XJ.out.frz 2
              have z3 := XJ.out.frz 3
              have z4 := XJ.out.frz 4
              have z5 := XJ.out.frz 5
              refine pe_last _ rfl ?_
              simp only [List.getElem_toArray, List.getElem_cons_zero, List.getElem_cons_succ]
              go_wp2_with fail
              clear v0 v1 v2 v3 v4 v5 z0 z1 z2 z3 z4 z5
              go_meet
              obtain ⟨xi, ui⟩ := set6 XJ.out (.int .i64 vw) (.int .i64 0) (.int .i64 cv) (.string cd) (.slice none 0 0) (.slice (some ⟨z, 0, none⟩) 1 1)
              refine ⟨y, z, rfl, X11.out.trans (ui.below YL.out), xi, ?_⟩
              exact row_keep RZ.out fun c hc => ui.block c (by have h0 : z = c := (by simpa [Value.ownBlock] using hc); have h1 := XI.out.lt; have h2 := ZW.out; omega)
          case rest =>
            obtain ⟨y, z, rfl, hbx, hblk, hrz⟩ := hcut
            have XB := Lib.hid (X8.out.on hbx)
            have HBK := Lib.hid hblk
            have HRZ := Lib.hid hrz
            have v0 : World.cell? _ ⟨y, 0, none⟩ = some (.int .i64 vw) := hblk.get 0 (by omega)
            have v1 : World.cell? _ ⟨y, 1, none⟩ = some (.int .i64 0) := hblk.get 1 (by omega)
            have v2 : World.cell? _ ⟨y, 2, none⟩ = some (.int .i64 cv) := hblk.get 2 (by omega)
            have v3 : World.cell? _ ⟨y, 3, none⟩ = some (.string cd) := hblk.get 3 (by omega)
            have v4 : World.cell? _ ⟨y, 4, none⟩ = some (.slice none 0 0) := hblk.get 4 (by omega)
            have v5 : World.cell? _ ⟨y, 5, none⟩ = some (.slice (some ⟨z, 0, none⟩) 1 1) := hblk.get 5 (by omega)
            clear hbx hblk hrz e4 e5 hwa hwb hwd hwe hwf hwg hwh e1 hw1 hw2 hne
            have HNB := Lib.hid (show nextB (chainL l i) i (l.getD i (0, 0, 0)) = (((vw, 0), ((cv, cd), [])), [((m2 : Int), 1 + (i : Int), ⟨#[]⟩)]) by
              unfold nextB
              simp only [HTT.out, HQ.out, HCV.out, HCD.out, HM1.out, HM2.out, HVW.out])
            have A4 := Lib.hid ((Below.refl wc.heap.size wc).alloc (Nat.le_refl _) (.cells #[.int .i64 vw, .int .i64 0, .int .i64 cv, .string cd, .slice none 0 0, .slice (some ⟨z, 0, none⟩) 1 1] 39))
            have S4 := Lib.hid (XB.out.on A4.out)
            have HRZ4 := Lib.hid (row_keep HRZ.out fun c hc => A4.out.block c (HRZ.out.lt c hc).2)
            have HCE := Lib.hid (show ∀ j u, ([.int .i64 vw, .int .i64 0, .int .i64 cv, .string cd, .slice none 0 0, .slice (some ⟨z, 0, none⟩) 1 1] : List Value)[j]? = some u → (wc.alloc (.cells #[.int .i64 vw, .int .i64 0, .int .i64 cv, .string cd, .slice none 0 0, .slice (some ⟨z, 0, none⟩) 1 1] 39)).cell? ((⟨wc.heap.size, 0, none⟩ : Addr).add j) = some u from fun j u hu => by
              have e : (⟨wc.heap.size, 0, none⟩ : Addr).add j = ⟨wc.heap.size, j, none⟩ := by unfold Addr.add; split <;> simp [*]
              rw [e]
              exact cell_new wc _ _ j u (by simpa using hu))
            have HC1 := Lib.hid (show ∀ u ∈ ([.int .i64 vw, .int .i64 0, .int .i64 cv, .string cd, .slice none 0 0, .slice (some ⟨z, 0, none⟩) 1 1] : List Value), u.oneCell' = true from fun u hu => by
              simp only [List.mem_cons, List.not_mem_nil, or_false] at hu
              rcases hu with rfl | rfl | rfl | rfl | rfl | rfl <;> rfl)
            have HQ3 := Lib.hid (show L.length + 1 ≤ maxLen by have := HLN.out; unfold maxLen; omega)
            have HQ4 := Lib.hid (show (L.length + 1) * 88 ≤ 140737488355328 by have := HLN.out; omega)
            have HZ := Lib.hid (show w.heap.size ≤ (wc.alloc (.cells #[.int .i64 vw, .int .i64 0, .int .i64 cv, .string cd, .slice none 0 0, .slice (some ⟨z, 0, none⟩) 1 1] 39)).heap.size from S4.out.below.size)
            obtain ⟨ti, i1, i2, i3, i4⟩ := info_parts (show (Tryd.prog.info? 39).map (fun i => (i.zero, i.size, i.bytes)) = some (some (.agg #[.int .i64 0, .int .i64 0, .int .i64 0, .string ⟨#[]⟩, .slice none 0 0, .slice none 0 0]), 6, 88) by kernel_rfl)
            go_wp2_with (at_builtin; refine wpList_append_own _ rfl _ _ 31 rfl w.heap.size 39 ti (.agg #[.int .i64 0, .int .i64 0, .int .i64 0, .string ⟨#[]⟩, .slice none 0 0, .slice none 0 0]) 6 88 (by kernel_rfl) i1 i2 i3 i4 rfl (by decide) _ _ _ rfl S4.out.row ⟨wc.heap.size, 0, none⟩ 1 1 [.int .i64 vw, .int .i64 0, .int .i64 cv, .string cd, .slice none 0 0, .slice (some ⟨z, 0, none⟩) 1 1] rfl rfl HCE.out HC1.out HQ3.out HQ4.out HZ.out ?_)
            intro u' w5 hown' hgr _
            obtain ⟨a', c', rfl⟩ : ∃ a' c', u' = .slice a' (L.length + 1) c' := by
              rcases hown'.2 with ⟨_, h0⟩ | ⟨q, cp, cur, rfl, _⟩
              · omega
              · exact ⟨_, _, rfl⟩
            have S5 := Lib.hid (S4.out.add (by decide) ((((vw, 0), ((cv, cd), [])), [((m2 : Int), 1 + (i : Int), ⟨#[]⟩)]), .slice none 0 0, .slice (some ⟨z, 0, none⟩) 1 1) ⟨rfl, rfl, HRZ4.out⟩ hown' hgr)
            clear hown' hgr v0 v1 v2 v3 v4 v5
            go_wp2_with fail
            go_roundw
            case rel => exact ⟨i + 1, _, by have := HI1.out; have := HI2.out; omega, by go_num, by rw [List.map_append, HMAP.out, chainL, HNB.out]; rfl, S5.out⟩
            case measure => have := HI2.out; simp [intOf]; omega
      · have h2' : ¬ (i : Int) < 40 := by omega
        have HF := Lib.hid (show i = min l.length 40 by omega)
        clear hi h1 h2
        go_wp2_with fail
        go_ret
        exact ⟨_, rfl, L, by rw [← HF.out]; exact HMAP.out, HST.out.bv, HST.out.below⟩
    · have h1' : ¬ (i : Int) < (l.length : Int) := by omega
      have HF := Lib.hid (show i = min l.length 40 by omega)
      clear hi h1
      go_wp2_with fail
      go_ret
      exact ⟨_, rfl, L, by rw [← HF.out]; exact HMAP.out, HST.out.bv, HST.out.below⟩
end Go.Proofs.YtlpnggdghmccjaaDoor
end
section
open Go Go.RowKit
namespace FF
open WW BB
theorem put_root (F : Fo) (x : It) : (putF F x).1.root = F.root ∧ (putF F x).1.height = F.height := by
  unfold putF
  split
  · exact ⟨rfl, rfl⟩
  · split
    · split <;> exact ⟨rfl, rfl⟩
    · split
      · exact ⟨rfl, rfl⟩
      · obtain ⟨h1, h2⟩ := adopt_root 10 (standF F x).1
        exact ⟨by rw [h1, stand_root], by rw [h2, stand_height]⟩
/-- the forest behind so many blocks -/
def playF (l : List BlockD) : Fo := l.foldl (fun F b => (putF F (digI b, b)).1) ⟨CC.firstD, 0, [], []⟩
theorem play_snoc (l : List BlockD) (i : Nat) (hi : i < l.length) : playF (l.take (i + 1)) = (putF (playF (l.take i)) (digI (l.getD i (((0, 0), ((0, ⟨#[]⟩), [])), [])), l.getD i (((0, 0), ((0, ⟨#[]⟩), [])), []))).1 := by
  unfold playF
  rw [List.take_add_one, List.getElem?_eq_getElem hi, List.foldl_append, List.getD_eq_getElem?_getD, List.getElem?_eq_getElem hi]
  rfl
theorem dig_size (b : BlockD) : (digI b).size = 32 := by
  unfold digI; exact JJ.digD_size _ _ _ _ _
theorem gset4 {w : World} {a : Nat} {f : Nat → Value} (h : Blk w a 4 f) (u0 u1 u2 u3 : Value) :
    Blk ((((w.setCell ⟨a, 0, none⟩ u0).setCell ⟨a, 1, none⟩ u1).setCell ⟨a, 2, none⟩ u2).setCell ⟨a, 3, none⟩ u3) a 4 (rowL [u0, u1, u2, u3]) ∧ Upd a w ((((w.setCell ⟨a, 0, none⟩ u0).setCell ⟨a, 1, none⟩ u1).setCell ⟨a, 2, none⟩ u2).setCell ⟨a, 3, none⟩ u3) := by
  refine ⟨((((h.set 0 u0).set 1 u1).set 2 u2).set 3 u3).congr _ fun i hi => ?_, ((((Upd.refl a w).trans (Upd.set _ _ _ _)).trans (Upd.set _ _ _ _)).trans (Upd.set _ _ _ _)).trans (Upd.set _ _ _ _)⟩
  match i, hi with
  | 0, _ => rfl
  | 1, _ => rfl
  | 2, _ => rfl
  | 3, _ => rfl
end FF
namespace Go.Proofs.YtlpnggdghmccjaaDoor
open FF JJ CC MM WW BB
/-- neither the code's forest's own blocks nor the box -/
def AwayP (g r : Nat) (mv ov : Value) (C : Nat → Prop) (b : Nat) : Prop := ¬ MineB g mv ov C b ∧ b ≠ r
structure TwM (B g r : Nat) (F G : Fo) (wr : World) (rt : ByteArray) (mv ov : Value) (N O : List Iv) (C : Nat → Prop) (na : Option Addr) (nn nc : Nat) (oa : Option Addr) (ow oc : Nat) : Prop where
  code : CFs B wr g F rt mv ov N O C
  ne : ∀ c, MineB g mv ov C c → c ≠ r
  blk : Blk wr r 4 (rowL [.string G.root, .int .i64 G.height, .slice na nn nc, .slice oa ow oc])
  fo : FoD (AwayP g r mv ov C) wr G (.slice na nn nc) (.slice oa ow oc)
  wf : WF G
  rB : B ≤ r
  tabs : Tabs wr
section
variable {B g r : Nat} {F G : Fo} {wr w2 : World} {rt : ByteArray} {mv ov : Value} {N O : List Iv} {C : Nat → Prop} {na : Option Addr} {nn nc : Nat} {oa : Option Addr} {ow oc : Nat}
theorem TwM.on (h : TwM B g r F G wr rt mv ov N O C na nn nc oa ow oc) (hb : Below wr.heap.size wr w2) : TwM B g r F G w2 rt mv ov N O C na nn nc oa ow oc :=
  ⟨h.code.on hb, h.ne, h.blk.below hb h.blk.lt, h.fo.on (Keeps.of hb), h.wf, h.rB, tabs_on h.tabs hb⟩
/-- another forest is stored in the box -/
theorem TwM.moved {G' : Fo} {na' oa' : Option Addr} {nn' nc' on' oc' n : Nat} (h : TwM B g r F G wr rt mv ov N O C na nn nc oa ow oc) (hf : FoD (fun b => AwayP g r mv ov C b ∨ n ≤ b) wr G' (.slice na' nn' nc') (.slice oa' on' oc')) (hn : ∀ b, MineB g mv ov C b → b < n) (hr : r < n)
    (hu : Upd r wr w2) (hb : Blk w2 r 4 (rowL [.string G'.root, .int .i64 G'.height, .slice na' nn' nc', .slice oa' on' oc'])) (hw : WF G') (hNT : NoTab r) : TwM B g r F G' w2 rt mv ov N O C na' nn' nc' oa' on' oc' := by
  have hk : ∀ {A : Nat → Prop}, (∀ b, A b → b ≠ r) → Keeps A wr w2 := fun hA => Keeps.upd hu hA
  refine ⟨h.code.keep (hk h.ne), h.ne, hb, (hf.on (hk fun b hb => ?_)).more fun b hb _ => ?_, hw, h.rB, tabs_keeps h.tabs (A := fun b => b ≠ r) (hk fun _ hb => hb) fun b => ?_⟩
  · rcases hb with hb | hb
    · exact hb.2
    · omega
  · rcases hb with hb | hb
    · exact hb
    · exact ⟨fun hm => by have := hn b hm; omega, by omega⟩
  · by_cases e : b = r
    · subst e; exact Or.inl hNT
    · exact Or.inr e
end
/-- both forests: the code's in block g, the reference's in the box r -/
def TwSt (w0 : World) (g r : Nat) (F G : Fo) (wr : World) : Prop :=
  (∃ rt mv ov N O C na nn nc oa ow oc, TwM w0.heap.size g r F G wr rt mv ov N O C na nn nc oa ow oc) ∧ Below w0.heap.size w0 wr
theorem TwSt.on {w0 : World} {g r : Nat} {F G : Fo} {wr w2 : World} (h : TwSt w0 g r F G wr) (hb : Below wr.heap.size wr w2) : TwSt w0 g r F G w2 := by
  obtain ⟨⟨rt, mv, ov, N, O, C, na, nn, nc, oa, on, oc, h⟩, h2⟩ := h
  exact ⟨⟨rt, mv, ov, N, O, C, na, nn, nc, oa, on, oc, h.on hb⟩, h2.trans (hb.mono h2.size)⟩
/-- the code's Put -/
theorem tw_put {w0 : World} {g r : Nat} {F G : Fo} {wr : World} (h : TwSt w0 g r F G wr) (hT : Tabs w0) (hH : 0 ≤ F.height ∧ F.height ≤ 1000000000) (b : BlockD) (hb : SmallI b) (R : Fo × Int) (hR : putF F (digI b, b) = R) (v p j : Int) (k : ByteArray) (h1 : viewI b = v) (h2 : propI b = p) (h3 : jvI b = j) (h4 : parI b = k) (sv rv : Value) (hv : SigsAt wr sv (sigsI b)) (hr : ReqsAt wr rv b.2) :
    Calls Tryd.prog 16 #[.pointer (some ⟨g, 0, none⟩), .agg #[.int .i64 v, .int .i64 p, .int .i64 j, .string k, sv, rv]] wr fun e w' => e = .returned (.int .i64 R.2) ∧ TwSt w0 g r R.1 G w' := by
  obtain ⟨⟨rt, mv, ov, N, O, C, na, nn, nc, oa, on, oc, hm⟩, hbl⟩ := h
  subst h1 h2 h3 h4 hR
  refine (gput_any hm.code hm.tabs (notab_of hT) hH b sv rv hv hr hb).mono ?_
  rintro e w' ⟨rfl, mv', ov', N', O', C', hc', hk, hnew⟩
  have hrl := hm.blk.lt
  have hnr : ¬ MineB g mv ov C r := fun c => hm.ne r c rfl
  refine ⟨rfl, ⟨rt, mv', ov', N', O', C', na, nn, nc, oa, on, oc, ⟨hc', fun c hc => ?_, hm.blk.of_heap (hk.block r hnr hrl), (hm.fo.cut.on (hk.sub fun c hc _ => hc.1.1)).more fun c hc _ => ⟨fun hmc => ?_, hc.1.2⟩, hm.wf, hm.rB, tabs_keeps hm.tabs hk fun c => ?_⟩⟩, hbl.trans (hk.low (fun c hcl hmc => by have := hm.code.ownB c hmc; omega) hbl.size)⟩
  · rcases hnew c hc with hc | hc
    · exact hm.ne c hc
    · omega
  · rcases hnew c hmc with h | h
    · exact hc.1.1 h
    · have := hc.2; omega
  · by_cases hmc : MineB g mv ov C c
    · exact Or.inl (notab_of hT c (hm.code.ownB c hmc))
    · exact Or.inr hmc
/-- what the reference's Put hands back -/
def RputP (A : Nat → Prop) (wr : World) (R : Fo × Int) (u : Value) (w' : World) : Prop :=
  ∃ na' nn' nc' oa' ow' oc', u = .tuple #[.agg #[.string R.1.root, .int .i64 R.1.height, .slice na' nn' nc', .slice oa' ow' oc'], .int .i64 R.2] ∧ FoD (fun b => A b ∨ wr.heap.size ≤ b) w' R.1 (.slice na' nn' nc') (.slice oa' ow' oc') ∧ Below wr.heap.size wr w'
theorem tw_rput {A : Nat → Prop} {G : Fo} {wr : World} {nv ov : Value} (hf : FoD A wr G nv ov) (hw : WF G) (b : BlockD) (hb : SmallI b) (R : Fo × Int) (hR : putF G (digI b, b) = R) (v p j : Int) (k : ByteArray) (h1 : viewI b = v) (h2 : propI b = p) (h3 : jvI b = j) (h4 : parI b = k) (sv rv : Value)
    (hd : Dep A wr (fun w' => SigsAt w' sv (sigsI b) ∧ ReqsAt w' rv b.2)) :
    Calls Tryd.prog 15 #[.agg #[.string G.root, .int .i64 G.height, nv, ov], .agg #[.int .i64 v, .int .i64 p, .int .i64 j, .string k, sv, rv]] wr fun e w' => ∃ u, e = .returned u ∧ RputP A wr R u w' := by
  subst h1 h2 h3 h4 hR
  refine (fput_any A G b sv rv _ _ wr hf hd (Nat.le_trans hw.n400 (by omega)) (Nat.le_trans hw.o8 (by omega)) hb.1 hb.2.1 hb.2.2).mono ?_
  rintro e w' ⟨nv', ov', rfl, hfo, hbl⟩
  obtain ⟨N', O', _, _, i1, i2⟩ := hfo.now
  obtain ⟨x1, x2, rfl⟩ := iv_shape i1
  obtain ⟨x3, x4, rfl⟩ := iv_shape i2
  obtain ⟨e1, e2⟩ := put_root G (digI b, b)
  exact ⟨_, rfl, x1, _, x2, x3, _, x4, by rw [e1, e2], hfo, hbl⟩
/-- another forest lies in a new box y, that of the reference still in r -/
def TwX (w0 : World) (g r y : Nat) (F G G' : Fo) (wx : World) : Prop :=
  ∃ rt mv ov N O C na nn nc oa ow oc na' nn' nc' oa' ow' oc' n, TwM w0.heap.size g r F G wx rt mv ov N O C na nn nc oa ow oc ∧ Below w0.heap.size w0 wx ∧ Blk wx y 4 (rowL [.string G'.root, .int .i64 G'.height, .slice na' nn' nc', .slice oa' ow' oc']) ∧
    FoD (fun b => AwayP g r mv ov C b ∨ n ≤ b) wx G' (.slice na' nn' nc') (.slice oa' ow' oc') ∧ (∀ b, MineB g mv ov C b → b < n) ∧ r < n ∧ y ≠ r ∧ WF G'
/-- it is stored in r -/
theorem TwX.moved {w0 : World} {g r : Nat} {F G G' : Fo} {wr w2 : World} {rt : ByteArray} {mv ov : Value} {N O : List Iv} {C : Nat → Prop} {na : Option Addr} {nn nc : Nat} {oa : Option Addr} {ow oc : Nat} {na' oa' : Option Addr} {nn' nc' ow' oc' n : Nat} (h : TwM w0.heap.size g r F G wr rt mv ov N O C na nn nc oa ow oc) (hb0 : Below w0.heap.size w0 wr)
    (hf : FoD (fun b => AwayP g r mv ov C b ∨ n ≤ b) wr G' (.slice na' nn' nc') (.slice oa' ow' oc')) (hn : ∀ b, MineB g mv ov C b → b < n) (hr : r < n) (hT : Tabs w0)
    (hu : Upd r wr w2) (hb : Blk w2 r 4 (rowL [.string G'.root, .int .i64 G'.height, .slice na' nn' nc', .slice oa' ow' oc'])) (hw : WF G') : TwSt w0 g r F G' w2 :=
  ⟨⟨rt, mv, ov, N, O, C, na', nn', nc', oa', ow', oc', h.moved hf hn hr hu hb hw (notab_of hT r h.rB)⟩, hb0.trans (hu.below h.rB)⟩
/-- what lies below rests upon what is neither's -/
theorem TwM.low {w0 : World} {g r : Nat} {F G : Fo} {wr : World} {rt : ByteArray} {mv ov : Value} {N O : List Iv} {C : Nat → Prop} {na : Option Addr} {nn nc : Nat} {oa : Option Addr} {ow oc : Nat} (h : TwM w0.heap.size g r F G wr rt mv ov N O C na nn nc oa ow oc) (hb : Below w0.heap.size w0 wr) : ∀ c, c < w0.heap.size → AwayP g r mv ov C c ∧ c < wr.heap.size :=
  fun c hc => ⟨⟨fun hm => by have := h.code.ownB c hm; omega, by have := h.rB; omega⟩, by have := hb.size; omega⟩
end Go.Proofs.YtlpnggdghmccjaaDoor
end
