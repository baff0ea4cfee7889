/-
  The cuts of a tag and of a signature.
-/
import Derived.Test.YthajnkcipifhcaaGreatDoorKRState
import Derived.Test.YthajnkcipifhcaaGreatDoorKWElems
import Derived.Maps.AppendAt
import Derived.WideShapes
import Derived.Deep.CutRange
import Derived.Lib.SmallJoins
import Derived.Deep.RegionHeld3
section
open Go Go.RowKit
namespace WW
open BB
def zS : Nat → Value := fun _ => .string ⟨#[]⟩
/-- the loop's state: j of N are read -/
structure LInvS (t n o e : Nat) {δ : Type} (Spx : ByteArray → Option (ByteArray × δ)) (Rx : RelT δ) (w : World) (f : Nat → Value) (b0 : ByteArray) (N : Nat) (wr : World) (j : Nat) (b' : ByteArray) : Prop where
  kp : Keep t w wr
  small : b'.size ≤ 1000000
  ex : ∃ sv l xs, Blk wr t n (put f o sv) ∧ ElemsR e 1 zS Rx wr w.heap.size wr.heap.size sv l xs ∧ l.length = j ∧ repSp Spx N b0 = (match repSp Spx (N - j) b' with | none => none | some (r, l') => some (r, l ++ l'))
end WW
namespace Go.Proofs.YthajnkcipifhcaaGreatDoor
open WW BB
theorem own_listS : Own Tryz.prog 336 := ⟨_, Tryz.func336, by kernel_rfl, by kernel_rfl⟩
set_option maxRecDepth 100000 in
set_option maxHeartbeats 4000000 in
theorem listS_walk {δ : Type} (Spx : ByteArray → Option (ByteArray × δ)) (Rx : RelT δ) (hR : SoundR Rx) (hsz : ∀ b r x, Spx b = some (r, x) → r.size ≤ b.size) (hone : ∀ d w lo hi g, Rx d w lo hi zS g → ∃ x, g 0 = .string x)
    (t n o p q r most : Nat) (kev : Nat) (env : Array Value) (f : Nat → Value) (b : ByteArray) (w : World) (hmost : most ≤ 100) (ho : o < n) (hb : b.size ≤ 1000000) (ht : Blk w t n f) (hf : f o = .slice none 0 0) (hev : EachR Tryz.prog (.func (.func kev) #[] env) 1 zS Spx Rx)
    (hp : w.cell? ⟨p, 0, none⟩ = some (.int .i64 (most : Int))) (hq : w.cell? ⟨q, 0, none⟩ = some (.func (.func kev) #[] env)) (hr : w.cell? ⟨r, 0, none⟩ = some (.pointer (some ⟨t, o, none⟩))) (p1 : p ≠ t) (q1 : q ≠ t) (r1 : r ≠ t) :
    Calls Tryz.prog 336 #[.string b, .pointer (some ⟨p, 0, none⟩), .pointer (some ⟨q, 0, none⟩), .pointer (some ⟨r, 0, none⟩)] w (Ans (EffR t n w f (listR 9 1 zS Rx o) (countSp (most : Int) Spx b))) := by
  have HR := Lib.hid hR
  have HSZ := Lib.hid hsz
  have HONE := Lib.hid hone
  have HO := Lib.hid ho
  have HB := Lib.hid hb
  have HT := Lib.hid ht
  have HF := Lib.hid hf
  have HEV := Lib.hid hev
  have HP := Lib.hid hp
  have HQ := Lib.hid hq
  have HRR := Lib.hid hr
  have HM := Lib.hid hmost
  have PQ := Lib.hid (And.intro p1 (And.intro q1 r1))
  obtain ⟨X, hX⟩ : ∃ X, countSp (most : Int) Spx b = X := ⟨_, rfl⟩
  rw [hX]
  have HX := Lib.hid hX
  clear hX hR hsz hone ho hb ht hf hev hp hq hr hmost p1 q1 r1
  go_enter Tryz.func336, Tryz.ntmps336
  go_upto_region 2 with fail
  have k1 := Blk.cell1 w (.int .i64 0) 3
  have b1 := (Below.refl w.heap.size w).alloc (Nat.le_refl _) (.cells #[.int .i64 0] 3)
  have z1 : w.heap.size < (w.alloc (.cells #[.int .i64 0] 3)).heap.size := by simp
  generalize w.alloc (.cells #[.int .i64 0] 3) = w1 at *
  have cp := keep_cell HP.out b1
  go_wp2_with fail
  have p1 := HP.out
  refine (mk_num w.heap.size 0 1 0 (most : Int) w1 (by omega) z1).mono ?_
  rintro e w2 ⟨kv, ev, rfl, hb2, hv⟩
  have K2 := Lib.hid (k1.below hb2 z1)
  have B2 := Lib.hid (b1.trans (hb2.mono b1.size))
  have HV := Lib.hid hv
  clear k1 b1 z1 hb2 hv cp p1
  clear w1
  obtain ⟨N1, hN1⟩ : ∃ N1, w.heap.size = N1 := ⟨_, rfl⟩
  rw [hN1] at K2 HV ⊢
  have HN1 := Lib.hid hN1
  clear hN1
  go_wp2_with (with_reducible refine hold_callv rfl rfl ?_)
  refine wpl_callv (v := .func (.func kv) #[] ev) (args := #[.string b]) _ rfl rfl rfl (by simp [Act.eval]) (HV.out _ b w2 HB.out (Keep.refl _ _) K2.out) Ans.ret ?_
  intro u w3 hu
  obtain ⟨ok, r0, hr, he⟩ := hu
  injection hr with hr
  subst hr
  rcases hsp : numSp 0 (most : Int) b with _ | ⟨r', N⟩
  · rw [hsp] at he
    obtain ⟨rfl, f', c3⟩ := he
    have B3 := Lib.hid (B2.out.trans (c3.1.below (by rw [HN1.out]; exact Nat.le_refl _) B2.out.size))
    have HS := Lib.hid hsp
    clear c3 hsp
    go_wp2_with fail
    go_ret2
    refine ⟨false, _, rfl, ?_⟩
    rw [← HX.out, count_none HS.out]
    exact ⟨rfl, f, keep_of_below B3.out (Nat.le_refl _) t, HT.out.below B3.out HT.out.lt⟩
  · rw [hsp] at he
    obtain ⟨rfl, rfl, c3⟩ := he
    have B3 := Lib.hid (B2.out.trans (c3.1.below (by rw [HN1.out]; exact Nat.le_refl _) B2.out.size))
    have HS := Lib.hid hsp
    have cn : w3.cell? ⟨N1, 0, none⟩ = some (.int .i64 (N : Int)) := c3.2.get 0 (by omega)
    have hN : N ≤ most := by have := (numSp_sound hsp).2.2; omega
    have HNM := Lib.hid hN
    have I0 : LInvS t n o 9 Spx Rx w f r0 N w3 0 r0 := by
      refine ⟨keep_of_below B3.out (Nat.le_refl _) t, by have := numSp_size hsp; have := HB.out; omega, .slice none 0 0, [], [], ?_, ?_, rfl, ?_⟩
      · refine (HT.out.below B3.out HT.out.lt).congr _ fun i _ => ?_
        by_cases h : i = o
        · subst h; rw [HF.out]; simp [put]
        · simp [put, h]
      · exact ⟨World.ownsRow_nil _ _ _ _, (fun c hc => by cases hc), (fun i d hd => by simp at hd)⟩
      · rw [Nat.sub_zero]
        rcases repSp Spx N r0 with _ | ⟨r, l⟩ <;> rfl
    have HI := Lib.hid I0
    clear c3 hsp hN I0 K2 HV B2
    go_wp2_with fail
    clear cn
    go_loopw [0, 20] (fun vb vi wr => ∃ (j : Nat) (b' : ByteArray), j ≤ N ∧ vi = .int .i64 (j : Int) ∧ vb = .string b' ∧ LInvS t n o 9 Spx Rx w f r0 N wr j b') (fun _ v _ => N - (intOf v).toNat)
    case atStart => exact ⟨0, r0, Nat.zero_le _, rfl, rfl, HI.out⟩
    case round =>
      clear HI
      obtain ⟨j, b', hj, rfl, rfl, hI⟩ := hrel
      have HI := Lib.hid hI
      clear hI
      have j0 : (0 : Int) ≤ (j : Int) := by omega
      have jb : (j : Int) ≤ 100 := by have := HM.out; have := HNM.out; omega
      by_cases hlt : j < N
      · have hlt' : (j : Int) < (N : Int) := by omega
        have HLT := Lib.hid hlt
        clear hlt hj
        go_upto_region 8 with fail
        have c4 := Lib.hid (show Blk (wr.alloc (.cells #[.string ⟨#[]⟩] 9)) wr.heap.size 1 zS from Blk.new _ _ _ _ _ rfl)
        have b4 := (Below.refl wr.heap.size wr).alloc (Nat.le_refl _) (.cells #[.string ⟨#[]⟩] 9)
        generalize wr.alloc (.cells #[.string ⟨#[]⟩] 9) = w4 at *
        have cq := keep_cell (keep_cell2 HQ.out PQ.out.2.1 HI.out.kp) b4
        have B4 := Lib.hid b4
        clear b4
        obtain ⟨tx, htx⟩ : ∃ tx, wr.heap.size = tx := ⟨_, rfl⟩
        rw [htx] at c4 ⊢
        have HTX := Lib.hid htx
        clear htx
        go_wp2_with (with_reducible refine hold_callv rfl rfl ?_)
        refine wpl_callv (v := .func (.func kev) #[] env) (args := #[.pointer (some ⟨tx, 0, none⟩)]) _ rfl rfl rfl (by simp [Act.eval]) (HEV.out tx w4 c4.out.lt) (fun _ _ ⟨_, _, h, _⟩ => ⟨_, h⟩) ?_
        rintro u w5 ⟨k2, env2, hu, hb5, hcv⟩
        injection hu with hu
        subst hu
        have c5 := Lib.hid (c4.out.below hb5 c4.out.lt)
        have B5 := Lib.hid (B4.out.trans (hb5.mono B4.out.size))
        have HCV := Lib.hid hcv
        clear hb5 hcv cq
        go_wp2_with (with_reducible refine hold_callv rfl rfl ?_)
        refine wpl_callv (v := .func (.func k2) #[] env2) (args := #[.string b']) _ rfl rfl rfl (by simp [Act.eval]) (HCV.out zS b' w5 HI.out.small (Keep.refl _ _) c5.out (fun _ _ => rfl)) Ans.ret ?_
        intro u w6 hu
        obtain ⟨ok, r1, hr, he⟩ := hu
        injection hr with hr
        subst hr
        obtain ⟨sv, l, xs, hblk, hel, hll, hrep⟩ := HI.out.ex
        have hNj : N - j = (N - j - 1) + 1 := by have := HLT.out; omega
        rw [hNj] at hrep
        rcases hsx : Spx b' with _ | ⟨r2, d⟩
        · unfold EffR at he
          rw [hsx] at he
          obtain ⟨rfl, g, k6, d6⟩ := he
          have hfin : X = none := by
            rw [← HX.out, count_some HS.out, hrep]
            unfold repSp
            rw [hsx]
          have HFIN := Lib.hid hfin
          have b6 := Lib.hid (B5.out.trans (k6.below (by rw [HTX.out]; exact Nat.le_refl _) B5.out.size))
          have HBK := Lib.hid hblk
          clear k6 d6 hblk hel hll hrep hsx hNj hfin
          go_wp2_with fail
          go_ret2
          refine ⟨false, _, rfl, ?_⟩
          rw [HFIN.out]
          exact ⟨rfl, _, HI.out.kp.trans (keep_of_below b6.out (Nat.le_refl _) t), HBK.out.below b6.out HBK.out.lt⟩
        · unfold EffR at he
          rw [hsx] at he
          obtain ⟨rfl, rfl, g, k6, d6, hrx⟩ := he
          have K6 := Lib.hid d6
          have b6 := Lib.hid (B5.out.trans (k6.below (by rw [HTX.out]; exact Nat.le_refl _) B5.out.size))
          have HBK := Lib.hid hblk
          have HEL := Lib.hid hel
          have HLL := Lib.hid hll
          have HSX := Lib.hid hsx
          have HRX := Lib.hid hrx
          have HRP := Lib.hid hrep
          have KP6 := Lib.hid (HI.out.kp.trans (keep_of_below b6.out (Nat.le_refl _) t))
          have BK6 := Lib.hid (HBK.out.below b6.out HBK.out.lt)
          clear k6 d6 hblk hel hll hrep hsx hNj hrx
          go_upto_region 11 with fail
          have cr : w6.cell? ⟨r, 0, none⟩ = some (.pointer (some ⟨t, o, none⟩)) := keep_cell2 HRR.out PQ.out.2.2 KP6.out
          have ct : w6.cell? ⟨t, o, none⟩ = some sv := by have := BK6.out.get o HO.out; simpa [put] using this
          have ft := BK6.out.frz o
          have x0 : w6.cell? ⟨tx, 0, none⟩ = some (g 0) := K6.out.get 0 (by omega)
          obtain ⟨gx, hgx⟩ := HONE.out _ _ _ _ _ HRX.out
          rw [hgx] at x0
          have HGX := Lib.hid hgx
          clear hgx
          have hbk := BK6.out.lt
          obtain ⟨i0, hi0, hz0, hz1, hz2⟩ := info_parts (show (Tryz.prog.info? 9).map (fun i => (i.zero, i.size, i.bytes)) = some (some (.string ⟨#[]⟩), 1, 16) by kernel_rfl)
          have bA : Below w6.heap.size w6 (({ w6 with drawn := w6.drawn + 1 } : World).alloc (.cells #[.string gx] 9)) := ((show Same w6 { w6 with drawn := w6.drawn + 1 } from ⟨rfl, rfl, rfl, rfl⟩).below _).alloc (Nat.le_refl _) _
          have hw := HI.out.kp.size
          have hrow : ∀ c, sv.ownBlock = some c → w.heap.size ≤ c ∧ c < wr.heap.size := fun c hc => ⟨owns_ge HEL.out.row c hc, HEL.out.top c hc⟩
          have HROW := Lib.hid hrow
          have HA := Lib.hid bA
          have hown : (({ w6 with drawn := w6.drawn + 1 } : World).alloc (.cells #[.string gx] 9)).ownsRow w.heap.size 9 1 sv l.length xs := owns_keep HEL.out.row fun c hc => (bA.block c (by have := (hrow c hc).2; have := b6.out.size; omega)).trans (b6.out.block c (hrow c hc).2)
          have HOWN := Lib.hid hown
          have HCS := Lib.hid (HONE.out _ _ _ _ _ HRX.out)
          clear hrow hown
          refine app_region (a1 := ?a1) [0, 1, 2, 4] 3 5 6 7 8 _ _ _ _ _ 34 36 37 38 (fun w' => w'.cell? ⟨r, 0, none⟩ = some (.pointer (some ⟨t, o, none⟩)) ∧ w'.cell? ⟨tx, 0, none⟩ = some (.string gx)) sv (.slice (some ⟨w6.heap.size, 0, none⟩) 1 1) (.pointer (some ⟨t, o, none⟩)) (.cells #[.string gx] 9) (by kernel_rfl) (by kernel_rfl) (fun _ _ d _ _ h => by cases d <;> exact h) rfl rfl rfl rfl rfl ⟨rfl, rfl, rfl, rfl, rfl⟩ rfl rfl rfl rfl rfl (by decide) ?hS0 ?hS5 ?hread ?h3 ?h5 ?h6
          case hS0 => exact ⟨cr, x0⟩
          case hS5 => exact ⟨cell_b cr bA, cell_b x0 bA⟩
          case hread =>
            simp only [pick, List.filterMap, List.getElem?_toArray, List.getElem?_cons_zero, List.getElem?_cons_succ]
            iterate 4 (refine heldg_run ?_ rfl ?_ ?_; rotate_left; (focus (intro w' hS; obtain ⟨s0, s1⟩ := hS; go_simp; exact rfl)); simp only [Act.put, List.setIfInBounds_toArray, List.set_cons_zero, List.set_cons_succ])
            exact rfl
          case h3 =>
            intro a' ha' w' hw'
            have ct' : w'.cell? ⟨t, o, none⟩ = some sv := by
              rcases hw' with rfl | rfl
              · exact ct
              · exact cell_b ct bA
            rcases ha' with rfl | rfl
            · go_simp
            · go_simp
          case h5 =>
            intro a' ha'
            rcases ha' with rfl | rfl
            · go_simp
            · go_simp
          case h6 =>
            refine app_mk (.tmp 34) (.tmp 36) 37 rfl w.heap.size 9 i0 (.string ⟨#[]⟩) 1 16 Tryz.underlying37 hi0 hz0 hz1 hz2 rfl (by decide) sv l.length xs rfl HOWN.out ⟨w6.heap.size, 0, none⟩ 1 1 [.string gx] rfl rfl ?hnews ?hone (by have := HLL.out; have := HLT.out; have := HNM.out; have := HM.out; unfold maxLen; omega) (by have := HLL.out; have := HLT.out; have := HNM.out; have := HM.out; omega) (by have := KP6.out.size; have := HA.out.size; omega) ?hK
            case hnews =>
              intro y u hy
              rw [WideShapes.add_plain, Nat.zero_add]
              exact cell_new { w6 with drawn := w6.drawn + 1 } #[.string gx] 9 y u (by simpa using hy)
            case hone =>
              intro u hu
              simp only [List.mem_cons, List.not_mem_nil, or_false] at hu
              rcases hu with rfl
              all_goals rfl
            case hK =>
            intro v6 w7 own7 grow loc
            obtain ⟨g7, cap7, rfl⟩ := Joins.ownsRow_form own7 (Nat.succ_pos _)
            have z6 := HA.out.size
            have y6 := b6.out.size
            have rne : ∀ c, sv.ownBlock = some c → r ≠ c := fun c hc => by
              have := (HROW.out c hc).1
              have := World.block_lt_of_cell? w _ HRR.out
              have : r < w.heap.size := this
              omega
            have tne : ∀ c, sv.ownBlock = some c → t ≠ c := fun c hc => by have := (HROW.out c hc).1; have := HT.out.lt; omega
            have xne : ∀ c, sv.ownBlock = some c → tx ≠ c := fun c hc => by have := (HROW.out c hc).2; have := HTX.out; omega
            have cr7 := cell_g (cell_b cr HA.out) grow rne
            have ct7 := cell_g (cell_b ct HA.out) grow tne
            have blk7 : Blk w7 t n (put f o sv) := (BK6.out.below HA.out BK6.out.lt).of_heap (grow.block t (by have := BK6.out.lt; omega) (fun h => tne t h.symm rfl))
            have ft7 := blk7.frz o
            refine ⟨⟨cr7, cell_g (cell_b x0 HA.out) grow xne⟩, ?_, ?_⟩
            · go_simp
            refine ⟨w7.setCell ⟨t, o, none⟩ (.slice (some ⟨g7, 0, none⟩) (l.length + 1) cap7), by go_simp, ?_⟩
            have u8 := Upd.set w7 t o (.slice (some ⟨g7, 0, none⟩) (l.length + 1) cap7)
            have blk8 := (blk7.set o (.slice (some ⟨g7, 0, none⟩) (l.length + 1) cap7)).congr (put f o (.slice (some ⟨g7, 0, none⟩) (l.length + 1) cap7)) fun i _ => by
              by_cases h : i = o
              · subst h; simp [put]
              · simp [put, h]
            generalize w7.setCell ⟨t, o, none⟩ (.slice (some ⟨g7, 0, none⟩) (l.length + 1) cap7) = w8 at *
            have xt : tx ≠ t := by have := HTX.out; have := HT.out.lt; omega
            refine ⟨⟨cell_u cr7 u8 PQ.out.2.2, cell_u (cell_g (cell_b x0 HA.out) grow xne) u8 xt⟩, ?_⟩
            have hel8 := elems_step (R := Rx) (w5 := w5) (d := d) (g := g) (news := [.string gx]) HR.out HT.out.lt hw HEL.out b6.out B5.out.size HRX.out HA.out own7 (fun j hj => by match j, hj with | 0, _ => rw [HGX.out]; rfl) grow loc u8
            have kp8 := keep_step HEL.out KP6.out HA.out grow u8
            have HL8 : Hid (LInvS t n o 9 Spx Rx w f r0 N w8 (j + 1) r1) := Lib.hid ⟨kp8, by have := HSZ.out _ _ _ HSX.out; have := HI.out.small; omega, _, l ++ [d], xs ++ [.string gx], blk8, hel8, by rw [List.length_append, List.length_singleton, HLL.out], by
              have := rep_snoc HSX.out HRP.out
              rwa [show N - j - 1 = N - (j + 1) by omega] at this⟩
            simp only [Act.put, List.setIfInBounds_toArray, List.set_cons_zero, List.set_cons_succ]
            clear hel8 kp8 blk8 u8 grow loc own7 cr7 ct7 blk7 ft7 rne tne xne z6 y6 cr ct ft hbk bA hw
            go_wp2_with fail
            go_roundw
            case rel => exact ⟨j + 1, r1, by have := HLT.out; omega, by go_num, rfl, HL8.out⟩
            case measure => have := HLT.out; simp [intOf]; omega
      · obtain rfl : j = N := by omega
        have hlt' : ¬ (j : Int) < (j : Int) := by omega
        clear hlt hj
        go_wp2_with fail
        go_ret2
        refine ⟨true, _, rfl, ?_⟩
        obtain ⟨sv, l, xs, h1, h2, h3, h4⟩ := HI.out.ex
        rw [Nat.sub_self] at h4
        have h5 : repSp Spx j r0 = some (b', l) := by rw [h4]; show some (b', l ++ []) = _; rw [List.append_nil]
        rw [← HX.out, count_some HS.out, h5]
        exact ⟨rfl, rfl, _, HI.out.kp, h1, sv, xs, rfl, h2⟩
end Go.Proofs.YthajnkcipifhcaaGreatDoor
end
section
open Go Go.RowKit
namespace Go.Proofs.YthajnkcipifhcaaGreatDoor
open WW BB
set_option maxRecDepth 100000 in
theorem mk_listS {δ : Type} (Spx : ByteArray → Option (ByteArray × δ)) (Rx : RelT δ) (hR : SoundR Rx) (hsz : ∀ b r x, Spx b = some (r, x) → r.size ≤ b.size) (hone : ∀ d w lo hi g, Rx d w lo hi zS g → ∃ x, g 0 = .string x)
    (t o n most : Nat) (kev : Nat) (env : Array Value) (w : World) (hmost : most ≤ 100) (ho : o < n) (ht : t < w.heap.size) (hev : EachR Tryz.prog (.func (.func kev) #[] env) 1 zS Spx Rx) :
    Calls Tryz.prog 309 #[.pointer (some ⟨t, o, none⟩), .int .i64 (most : Int), .func (.func kev) #[] env] w (MakesR Tryz.prog t n w (fun f => f o = .slice none 0 0) (countSp (most : Int) Spx) (listR 9 1 zS Rx o)) := by
  have HR := Lib.hid hR
  have HSZ := Lib.hid hsz
  have HONE := Lib.hid hone
  have HO := Lib.hid ho
  have HT := Lib.hid ht
  have HM := Lib.hid hmost
  have HEV := Lib.hid hev
  clear hR hsz hone ho ht hmost hev
  go_enter Tryz.func309, Tryz.ntmps309
  go_wp2_with fail
  go_ret
  have b1 := (Below.refl w.heap.size w).alloc (Nat.le_refl _) (.cells #[.pointer (some ⟨t, o, none⟩)] 338)
  have b2 := b1.alloc b1.size (.cells #[.int .i64 (most : Int)] 3)
  have b3 := b2.alloc b2.size (.cells #[.func (.func kev) #[] env] 339)
  have := HT.out
  refine ⟨_, _, rfl, b3, fun f b wx hb hk hx hp => ⟨_, _, rfl, own_listS, ?_⟩⟩
  refine listS_walk Spx Rx HR.out HSZ.out HONE.out t n o (w.heap.size + 1) (w.heap.size + 2) w.heap.size most kev env f b wx HM.out HO.out hb hx hp HEV.out ?_ ?_ ?_ (by omega) (by omega) (by omega)
  · exact keep_cell2 (cell_old (cell_at _ _ _ _ (by simp))) (by omega) hk
  · exact keep_cell2 (cell_at _ _ _ _ (by simp)) (by omega) hk
  · exact keep_cell2 (cell_old (cell_old (cell_at _ _ _ _ rfl))) (by omega) hk
end Go.Proofs.YthajnkcipifhcaaGreatDoor
end
section
open Go Go.RowKit
namespace WW
open BB
def zG : Nat → Value := fun i => if i = 0 then .int .i64 0 else .slice none 0 0
/-- the loop's state: j of N are read -/
structure LInvG (t n o e : Nat) {δ : Type} (Spx : ByteArray → Option (ByteArray × δ)) (Rx : RelT δ) (w : World) (f : Nat → Value) (b0 : ByteArray) (N : Nat) (wr : World) (j : Nat) (b' : ByteArray) : Prop where
  kp : Keep t w wr
  small : b'.size ≤ 1000000
  ex : ∃ sv l xs, Blk wr t n (put f o sv) ∧ ElemsR e 2 zG Rx wr w.heap.size wr.heap.size sv l xs ∧ l.length = j ∧ repSp Spx N b0 = (match repSp Spx (N - j) b' with | none => none | some (r, l') => some (r, l ++ l'))
end WW
namespace Go.Proofs.YthajnkcipifhcaaGreatDoor
open WW BB
theorem own_listG : Own Tryz.prog 308 := ⟨_, Tryz.func308, by kernel_rfl, by kernel_rfl⟩
set_option maxRecDepth 100000 in
set_option maxHeartbeats 4000000 in
theorem listG_walk {δ : Type} (Spx : ByteArray → Option (ByteArray × δ)) (Rx : RelT δ) (hR : SoundR Rx) (hsz : ∀ b r x, Spx b = some (r, x) → r.size ≤ b.size) (hone : ∀ d w lo hi g, Rx d w lo hi zG g → ∀ i, i < 2 → (g i).oneCell' = true)
    (t n o p q r most : Nat) (kev : Nat) (env : Array Value) (f : Nat → Value) (b : ByteArray) (w : World) (hmost : most ≤ 100) (ho : o < n) (hb : b.size ≤ 1000000) (ht : Blk w t n f) (hf : f o = .slice none 0 0) (hev : EachR Tryz.prog (.func (.func kev) #[] env) 2 zG Spx Rx)
    (hp : w.cell? ⟨p, 0, none⟩ = some (.int .i64 (most : Int))) (hq : w.cell? ⟨q, 0, none⟩ = some (.func (.func kev) #[] env)) (hr : w.cell? ⟨r, 0, none⟩ = some (.pointer (some ⟨t, o, none⟩))) (p1 : p ≠ t) (q1 : q ≠ t) (r1 : r ≠ t) :
    Calls Tryz.prog 308 #[.string b, .pointer (some ⟨p, 0, none⟩), .pointer (some ⟨q, 0, none⟩), .pointer (some ⟨r, 0, none⟩)] w (Ans (EffR t n w f (listR 39 2 zG Rx o) (countSp (most : Int) Spx b))) := by
  have HR := Lib.hid hR
  have HSZ := Lib.hid hsz
  have HONE := Lib.hid hone
  have HO := Lib.hid ho
  have HB := Lib.hid hb
  have HT := Lib.hid ht
  have HF := Lib.hid hf
  have HEV := Lib.hid hev
  have HP := Lib.hid hp
  have HQ := Lib.hid hq
  have HRR := Lib.hid hr
  have HM := Lib.hid hmost
  have PQ := Lib.hid (And.intro p1 (And.intro q1 r1))
  obtain ⟨X, hX⟩ : ∃ X, countSp (most : Int) Spx b = X := ⟨_, rfl⟩
  rw [hX]
  have HX := Lib.hid hX
  clear hX hR hsz hone ho hb ht hf hev hp hq hr hmost p1 q1 r1
  go_enter Tryz.func308, Tryz.ntmps308
  go_upto_region 2 with fail
  have k1 := Blk.cell1 w (.int .i64 0) 3
  have b1 := (Below.refl w.heap.size w).alloc (Nat.le_refl _) (.cells #[.int .i64 0] 3)
  have z1 : w.heap.size < (w.alloc (.cells #[.int .i64 0] 3)).heap.size := by simp
  generalize w.alloc (.cells #[.int .i64 0] 3) = w1 at *
  have cp := keep_cell HP.out b1
  go_wp2_with fail
  have p1 := HP.out
  refine (mk_num w.heap.size 0 1 0 (most : Int) w1 (by omega) z1).mono ?_
  rintro e w2 ⟨kv, ev, rfl, hb2, hv⟩
  have K2 := Lib.hid (k1.below hb2 z1)
  have B2 := Lib.hid (b1.trans (hb2.mono b1.size))
  have HV := Lib.hid hv
  clear k1 b1 z1 hb2 hv cp p1
  clear w1
  obtain ⟨N1, hN1⟩ : ∃ N1, w.heap.size = N1 := ⟨_, rfl⟩
  rw [hN1] at K2 HV ⊢
  have HN1 := Lib.hid hN1
  clear hN1
  go_wp2_with (with_reducible refine hold_callv rfl rfl ?_)
  refine wpl_callv (v := .func (.func kv) #[] ev) (args := #[.string b]) _ rfl rfl rfl (by simp [Act.eval]) (HV.out _ b w2 HB.out (Keep.refl _ _) K2.out) Ans.ret ?_
  intro u w3 hu
  obtain ⟨ok, r0, hr, he⟩ := hu
  injection hr with hr
  subst hr
  rcases hsp : numSp 0 (most : Int) b with _ | ⟨r', N⟩
  · rw [hsp] at he
    obtain ⟨rfl, f', c3⟩ := he
    have B3 := Lib.hid (B2.out.trans (c3.1.below (by rw [HN1.out]; exact Nat.le_refl _) B2.out.size))
    have HS := Lib.hid hsp
    clear c3 hsp
    go_wp2_with fail
    go_ret2
    refine ⟨false, _, rfl, ?_⟩
    rw [← HX.out, count_none HS.out]
    exact ⟨rfl, f, keep_of_below B3.out (Nat.le_refl _) t, HT.out.below B3.out HT.out.lt⟩
  · rw [hsp] at he
    obtain ⟨rfl, rfl, c3⟩ := he
    have B3 := Lib.hid (B2.out.trans (c3.1.below (by rw [HN1.out]; exact Nat.le_refl _) B2.out.size))
    have HS := Lib.hid hsp
    have cn : w3.cell? ⟨N1, 0, none⟩ = some (.int .i64 (N : Int)) := c3.2.get 0 (by omega)
    have hN : N ≤ most := by have := (numSp_sound hsp).2.2; omega
    have HNM := Lib.hid hN
    have I0 : LInvG t n o 39 Spx Rx w f r0 N w3 0 r0 := by
      refine ⟨keep_of_below B3.out (Nat.le_refl _) t, by have := numSp_size hsp; have := HB.out; omega, .slice none 0 0, [], [], ?_, ?_, rfl, ?_⟩
      · refine (HT.out.below B3.out HT.out.lt).congr _ fun i _ => ?_
        by_cases h : i = o
        · subst h; rw [HF.out]; simp [put]
        · simp [put, h]
      · exact ⟨World.ownsRow_nil _ _ _ _, (fun c hc => by cases hc), (fun i d hd => by simp at hd)⟩
      · rw [Nat.sub_zero]
        rcases repSp Spx N r0 with _ | ⟨r, l⟩ <;> rfl
    have HI := Lib.hid I0
    clear c3 hsp hN I0 K2 HV B2
    go_wp2_with fail
    clear cn
    go_loopw [0, 20] (fun vb vi wr => ∃ (j : Nat) (b' : ByteArray), j ≤ N ∧ vi = .int .i64 (j : Int) ∧ vb = .string b' ∧ LInvG t n o 39 Spx Rx w f r0 N wr j b') (fun _ v _ => N - (intOf v).toNat)
    case atStart => exact ⟨0, r0, Nat.zero_le _, rfl, rfl, HI.out⟩
    case round =>
      clear HI
      obtain ⟨j, b', hj, rfl, rfl, hI⟩ := hrel
      have HI := Lib.hid hI
      clear hI
      have j0 : (0 : Int) ≤ (j : Int) := by omega
      have jb : (j : Int) ≤ 100 := by have := HM.out; have := HNM.out; omega
      by_cases hlt : j < N
      · have hlt' : (j : Int) < (N : Int) := by omega
        have HLT := Lib.hid hlt
        clear hlt hj
        go_upto_region 8 with fail
        have c4 := Lib.hid (show Blk (wr.alloc (.cells #[.int .i64 0, .slice none 0 0] 39)) wr.heap.size 2 zG from Blk.new _ _ _ _ _ rfl)
        have b4 := (Below.refl wr.heap.size wr).alloc (Nat.le_refl _) (.cells #[.int .i64 0, .slice none 0 0] 39)
        generalize wr.alloc (.cells #[.int .i64 0, .slice none 0 0] 39) = w4 at *
        have cq := keep_cell (keep_cell2 HQ.out PQ.out.2.1 HI.out.kp) b4
        have B4 := Lib.hid b4
        clear b4
        obtain ⟨tx, htx⟩ : ∃ tx, wr.heap.size = tx := ⟨_, rfl⟩
        rw [htx] at c4 ⊢
        have HTX := Lib.hid htx
        clear htx
        go_wp2_with (with_reducible refine hold_callv rfl rfl ?_)
        refine wpl_callv (v := .func (.func kev) #[] env) (args := #[.pointer (some ⟨tx, 0, none⟩)]) _ rfl rfl rfl (by simp [Act.eval]) (HEV.out tx w4 c4.out.lt) (fun _ _ ⟨_, _, h, _⟩ => ⟨_, h⟩) ?_
        rintro u w5 ⟨k2, env2, hu, hb5, hcv⟩
        injection hu with hu
        subst hu
        have c5 := Lib.hid (c4.out.below hb5 c4.out.lt)
        have B5 := Lib.hid (B4.out.trans (hb5.mono B4.out.size))
        have HCV := Lib.hid hcv
        clear hb5 hcv cq
        go_wp2_with (with_reducible refine hold_callv rfl rfl ?_)
        refine wpl_callv (v := .func (.func k2) #[] env2) (args := #[.string b']) _ rfl rfl rfl (by simp [Act.eval]) (HCV.out zG b' w5 HI.out.small (Keep.refl _ _) c5.out (fun _ _ => rfl)) Ans.ret ?_
        intro u w6 hu
        obtain ⟨ok, r1, hr, he⟩ := hu
        injection hr with hr
        subst hr
        obtain ⟨sv, l, xs, hblk, hel, hll, hrep⟩ := HI.out.ex
        have hNj : N - j = (N - j - 1) + 1 := by have := HLT.out; omega
        rw [hNj] at hrep
        rcases hsx : Spx b' with _ | ⟨r2, d⟩
        · unfold EffR at he
          rw [hsx] at he
          obtain ⟨rfl, g, k6, d6⟩ := he
          have hfin : X = none := by
            rw [← HX.out, count_some HS.out, hrep]
            unfold repSp
            rw [hsx]
          have HFIN := Lib.hid hfin
          have b6 := Lib.hid (B5.out.trans (k6.below (by rw [HTX.out]; exact Nat.le_refl _) B5.out.size))
          have HBK := Lib.hid hblk
          clear k6 d6 hblk hel hll hrep hsx hNj hfin
          go_wp2_with fail
          go_ret2
          refine ⟨false, _, rfl, ?_⟩
          rw [HFIN.out]
          exact ⟨rfl, _, HI.out.kp.trans (keep_of_below b6.out (Nat.le_refl _) t), HBK.out.below b6.out HBK.out.lt⟩
        · unfold EffR at he
          rw [hsx] at he
          obtain ⟨rfl, rfl, g, k6, d6, hrx⟩ := he
          have K6 := Lib.hid d6
          have b6 := Lib.hid (B5.out.trans (k6.below (by rw [HTX.out]; exact Nat.le_refl _) B5.out.size))
          have HBK := Lib.hid hblk
          have HEL := Lib.hid hel
          have HLL := Lib.hid hll
          have HSX := Lib.hid hsx
          have HRX := Lib.hid hrx
          have HRP := Lib.hid hrep
          have KP6 := Lib.hid (HI.out.kp.trans (keep_of_below b6.out (Nat.le_refl _) t))
          have BK6 := Lib.hid (HBK.out.below b6.out HBK.out.lt)
          clear k6 d6 hblk hel hll hrep hsx hNj hrx
          go_upto_region 11 with fail
          have cr : w6.cell? ⟨r, 0, none⟩ = some (.pointer (some ⟨t, o, none⟩)) := keep_cell2 HRR.out PQ.out.2.2 KP6.out
          have ct : w6.cell? ⟨t, o, none⟩ = some sv := by have := BK6.out.get o HO.out; simpa [put] using this
          have ft := BK6.out.frz o
          have x0 : w6.cell? ⟨tx, 0, none⟩ = some (g 0) := K6.out.get 0 (by omega)
          have x1 : w6.cell? ⟨tx, 1, none⟩ = some (g 1) := K6.out.get 1 (by omega)
          have hbk := BK6.out.lt
          obtain ⟨i0, hi0, hz0, hz1, hz2⟩ := info_parts (show (Tryz.prog.info? 39).map (fun i => (i.zero, i.size, i.bytes)) = some (some (.agg #[.int .i64 0, .slice none 0 0]), 2, 32) by kernel_rfl)
          have bA : Below w6.heap.size w6 (({ w6 with drawn := w6.drawn + 1 } : World).alloc (.cells #[g 0, g 1] 39)) := ((show Same w6 { w6 with drawn := w6.drawn + 1 } from ⟨rfl, rfl, rfl, rfl⟩).below _).alloc (Nat.le_refl _) _
          have hw := HI.out.kp.size
          have hrow : ∀ c, sv.ownBlock = some c → w.heap.size ≤ c ∧ c < wr.heap.size := fun c hc => ⟨owns_ge HEL.out.row c hc, HEL.out.top c hc⟩
          have HROW := Lib.hid hrow
          have HA := Lib.hid bA
          have hown : (({ w6 with drawn := w6.drawn + 1 } : World).alloc (.cells #[g 0, g 1] 39)).ownsRow w.heap.size 39 2 sv l.length xs := owns_keep HEL.out.row fun c hc => (bA.block c (by have := (hrow c hc).2; have := b6.out.size; omega)).trans (b6.out.block c (hrow c hc).2)
          have HOWN := Lib.hid hown
          have HCS := Lib.hid (HONE.out _ _ _ _ _ HRX.out)
          clear hrow hown
          refine app_region (a1 := ?a1) [0, 1, 2, 4] 3 5 6 7 8 _ _ _ _ _ 34 36 37 38 (fun w' => w'.cell? ⟨r, 0, none⟩ = some (.pointer (some ⟨t, o, none⟩)) ∧ w'.cell? ⟨tx, 0, none⟩ = some (g 0) ∧ w'.cell? ⟨tx, 1, none⟩ = some (g 1)) sv (.slice (some ⟨w6.heap.size, 0, none⟩) 1 1) (.pointer (some ⟨t, o, none⟩)) (.cells #[g 0, g 1] 39) (by kernel_rfl) (by kernel_rfl) (fun _ _ d _ _ h => by cases d <;> exact h) rfl rfl rfl rfl rfl ⟨rfl, rfl, rfl, rfl, rfl⟩ rfl rfl rfl rfl rfl (by decide) ?hS0 ?hS5 ?hread ?h3 ?h5 ?h6
          case hS0 => exact ⟨cr, x0, x1⟩
          case hS5 => exact ⟨cell_b cr bA, cell_b x0 bA, cell_b x1 bA⟩
          case hread =>
            simp only [pick, List.filterMap, List.getElem?_toArray, List.getElem?_cons_zero, List.getElem?_cons_succ]
            iterate 4 (refine heldg_run ?_ rfl ?_ ?_; rotate_left; (focus (intro w' hS; obtain ⟨s0, s1, s2⟩ := hS; go_simp; exact rfl)); simp only [Act.put, List.setIfInBounds_toArray, List.set_cons_zero, List.set_cons_succ])
            exact rfl
          case h3 =>
            intro a' ha' w' hw'
            have ct' : w'.cell? ⟨t, o, none⟩ = some sv := by
              rcases hw' with rfl | rfl
              · exact ct
              · exact cell_b ct bA
            rcases ha' with rfl | rfl
            · go_simp
            · go_simp
          case h5 =>
            intro a' ha'
            rcases ha' with rfl | rfl
            · go_simp
            · go_simp
          case h6 =>
            refine app_mk (.tmp 34) (.tmp 36) 31 rfl w.heap.size 39 i0 (.agg #[.int .i64 0, .slice none 0 0]) 2 32 Tryz.underlying31 hi0 hz0 hz1 hz2 rfl (by decide) sv l.length xs rfl HOWN.out ⟨w6.heap.size, 0, none⟩ 1 1 [g 0, g 1] rfl rfl ?hnews ?hone (by have := HLL.out; have := HLT.out; have := HNM.out; have := HM.out; unfold maxLen; omega) (by have := HLL.out; have := HLT.out; have := HNM.out; have := HM.out; omega) (by have := KP6.out.size; have := HA.out.size; omega) ?hK
            case hnews =>
              intro y u hy
              rw [WideShapes.add_plain, Nat.zero_add]
              exact cell_new { w6 with drawn := w6.drawn + 1 } #[g 0, g 1] 39 y u (by simpa using hy)
            case hone =>
              intro u hu
              simp only [List.mem_cons, List.not_mem_nil, or_false] at hu
              rcases hu with rfl | rfl
              all_goals exact HCS.out _ (by decide)
            case hK =>
            intro v6 w7 own7 grow loc
            obtain ⟨g7, cap7, rfl⟩ := Joins.ownsRow_form own7 (Nat.succ_pos _)
            have z6 := HA.out.size
            have y6 := b6.out.size
            have rne : ∀ c, sv.ownBlock = some c → r ≠ c := fun c hc => by
              have := (HROW.out c hc).1
              have := World.block_lt_of_cell? w _ HRR.out
              have : r < w.heap.size := this
              omega
            have tne : ∀ c, sv.ownBlock = some c → t ≠ c := fun c hc => by have := (HROW.out c hc).1; have := HT.out.lt; omega
            have xne : ∀ c, sv.ownBlock = some c → tx ≠ c := fun c hc => by have := (HROW.out c hc).2; have := HTX.out; omega
            have cr7 := cell_g (cell_b cr HA.out) grow rne
            have ct7 := cell_g (cell_b ct HA.out) grow tne
            have blk7 : Blk w7 t n (put f o sv) := (BK6.out.below HA.out BK6.out.lt).of_heap (grow.block t (by have := BK6.out.lt; omega) (fun h => tne t h.symm rfl))
            have ft7 := blk7.frz o
            refine ⟨⟨cr7, cell_g (cell_b x0 HA.out) grow xne, cell_g (cell_b x1 HA.out) grow xne⟩, ?_, ?_⟩
            · go_simp
            refine ⟨w7.setCell ⟨t, o, none⟩ (.slice (some ⟨g7, 0, none⟩) (l.length + 1) cap7), by go_simp, ?_⟩
            have u8 := Upd.set w7 t o (.slice (some ⟨g7, 0, none⟩) (l.length + 1) cap7)
            have blk8 := (blk7.set o (.slice (some ⟨g7, 0, none⟩) (l.length + 1) cap7)).congr (put f o (.slice (some ⟨g7, 0, none⟩) (l.length + 1) cap7)) fun i _ => by
              by_cases h : i = o
              · subst h; simp [put]
              · simp [put, h]
            generalize w7.setCell ⟨t, o, none⟩ (.slice (some ⟨g7, 0, none⟩) (l.length + 1) cap7) = w8 at *
            have xt : tx ≠ t := by have := HTX.out; have := HT.out.lt; omega
            refine ⟨⟨cell_u cr7 u8 PQ.out.2.2, cell_u (cell_g (cell_b x0 HA.out) grow xne) u8 xt, cell_u (cell_g (cell_b x1 HA.out) grow xne) u8 xt⟩, ?_⟩
            have hel8 := elems_step (R := Rx) (w5 := w5) (d := d) (g := g) (news := [g 0, g 1]) HR.out HT.out.lt hw HEL.out b6.out B5.out.size HRX.out HA.out own7 (fun j hj => by match j, hj with | 0, _ => rfl | 1, _ => rfl) grow loc u8
            have kp8 := keep_step HEL.out KP6.out HA.out grow u8
            have HL8 : Hid (LInvG t n o 39 Spx Rx w f r0 N w8 (j + 1) r1) := Lib.hid ⟨kp8, by have := HSZ.out _ _ _ HSX.out; have := HI.out.small; omega, _, l ++ [d], xs ++ [g 0, g 1], blk8, hel8, by rw [List.length_append, List.length_singleton, HLL.out], by
              have := rep_snoc HSX.out HRP.out
              rwa [show N - j - 1 = N - (j + 1) by omega] at this⟩
            simp only [Act.put, List.setIfInBounds_toArray, List.set_cons_zero, List.set_cons_succ]
            clear hel8 kp8 blk8 u8 grow loc own7 cr7 ct7 blk7 ft7 rne tne xne z6 y6 cr ct ft hbk bA hw
            go_wp2_with fail
            go_roundw
            case rel => exact ⟨j + 1, r1, by have := HLT.out; omega, by go_num, rfl, HL8.out⟩
            case measure => have := HLT.out; simp [intOf]; omega
      · obtain rfl : j = N := by omega
        have hlt' : ¬ (j : Int) < (j : Int) := by omega
        clear hlt hj
        go_wp2_with fail
        go_ret2
        refine ⟨true, _, rfl, ?_⟩
        obtain ⟨sv, l, xs, h1, h2, h3, h4⟩ := HI.out.ex
        rw [Nat.sub_self] at h4
        have h5 : repSp Spx j r0 = some (b', l) := by rw [h4]; show some (b', l ++ []) = _; rw [List.append_nil]
        rw [← HX.out, count_some HS.out, h5]
        exact ⟨rfl, rfl, _, HI.out.kp, h1, sv, xs, rfl, h2⟩
end Go.Proofs.YthajnkcipifhcaaGreatDoor
end
section
open Go Go.RowKit
namespace Go.Proofs.YthajnkcipifhcaaGreatDoor
open WW BB
set_option maxRecDepth 100000 in
theorem mk_listG {δ : Type} (Spx : ByteArray → Option (ByteArray × δ)) (Rx : RelT δ) (hR : SoundR Rx) (hsz : ∀ b r x, Spx b = some (r, x) → r.size ≤ b.size) (hone : ∀ d w lo hi g, Rx d w lo hi zG g → ∀ i, i < 2 → (g i).oneCell' = true)
    (t o n most : Nat) (kev : Nat) (env : Array Value) (w : World) (hmost : most ≤ 100) (ho : o < n) (ht : t < w.heap.size) (hev : EachR Tryz.prog (.func (.func kev) #[] env) 2 zG Spx Rx) :
    Calls Tryz.prog 270 #[.pointer (some ⟨t, o, none⟩), .int .i64 (most : Int), .func (.func kev) #[] env] w (MakesR Tryz.prog t n w (fun f => f o = .slice none 0 0) (countSp (most : Int) Spx) (listR 39 2 zG Rx o)) := by
  have HR := Lib.hid hR
  have HSZ := Lib.hid hsz
  have HONE := Lib.hid hone
  have HO := Lib.hid ho
  have HT := Lib.hid ht
  have HM := Lib.hid hmost
  have HEV := Lib.hid hev
  clear hR hsz hone ho ht hmost hev
  go_enter Tryz.func270, Tryz.ntmps270
  go_wp2_with fail
  go_ret
  have b1 := (Below.refl w.heap.size w).alloc (Nat.le_refl _) (.cells #[.pointer (some ⟨t, o, none⟩)] 302)
  have b2 := b1.alloc b1.size (.cells #[.int .i64 (most : Int)] 3)
  have b3 := b2.alloc b2.size (.cells #[.func (.func kev) #[] env] 303)
  have := HT.out
  refine ⟨_, _, rfl, b3, fun f b wx hb hk hx hp => ⟨_, _, rfl, own_listG, ?_⟩⟩
  refine listG_walk Spx Rx HR.out HSZ.out HONE.out t n o (w.heap.size + 1) (w.heap.size + 2) w.heap.size most kev env f b wx HM.out HO.out hb hx hp HEV.out ?_ ?_ ?_ (by omega) (by omega) (by omega)
  · exact keep_cell2 (cell_old (cell_at _ _ _ _ (by simp))) (by omega) hk
  · exact keep_cell2 (cell_at _ _ _ _ (by simp)) (by omega) hk
  · exact keep_cell2 (cell_old (cell_old (cell_at _ _ _ _ rfl))) (by omega) hk
end Go.Proofs.YthajnkcipifhcaaGreatDoor
end
section
open Go Go.RowKit
namespace WW
open BB
def zQ : Nat → Value := fun i => if i = 0 then .int .i64 0 else if i = 1 then .int .i64 0 else .string ⟨#[]⟩
/-- the loop's state: j of N are read -/
structure LInvQ (t n o e : Nat) {δ : Type} (Spx : ByteArray → Option (ByteArray × δ)) (Rx : RelT δ) (w : World) (f : Nat → Value) (b0 : ByteArray) (N : Nat) (wr : World) (j : Nat) (b' : ByteArray) : Prop where
  kp : Keep t w wr
  small : b'.size ≤ 1000000
  ex : ∃ sv l xs, Blk wr t n (put f o sv) ∧ ElemsR e 3 zQ Rx wr w.heap.size wr.heap.size sv l xs ∧ l.length = j ∧ repSp Spx N b0 = (match repSp Spx (N - j) b' with | none => none | some (r, l') => some (r, l ++ l'))
end WW
namespace Go.Proofs.YthajnkcipifhcaaGreatDoor
open WW BB
theorem own_listQ : Own Tryz.prog 337 := ⟨_, Tryz.func337, by kernel_rfl, by kernel_rfl⟩
set_option maxRecDepth 100000 in
set_option maxHeartbeats 4000000 in
theorem listQ_walk {δ : Type} (Spx : ByteArray → Option (ByteArray × δ)) (Rx : RelT δ) (hR : SoundR Rx) (hsz : ∀ b r x, Spx b = some (r, x) → r.size ≤ b.size) (hone : ∀ d w lo hi g, Rx d w lo hi zQ g → ∀ i, i < 3 → (g i).oneCell' = true)
    (t n o p q r most : Nat) (kev : Nat) (env : Array Value) (f : Nat → Value) (b : ByteArray) (w : World) (hmost : most ≤ 100) (ho : o < n) (hb : b.size ≤ 1000000) (ht : Blk w t n f) (hf : f o = .slice none 0 0) (hev : EachR Tryz.prog (.func (.func kev) #[] env) 3 zQ Spx Rx)
    (hp : w.cell? ⟨p, 0, none⟩ = some (.int .i64 (most : Int))) (hq : w.cell? ⟨q, 0, none⟩ = some (.func (.func kev) #[] env)) (hr : w.cell? ⟨r, 0, none⟩ = some (.pointer (some ⟨t, o, none⟩))) (p1 : p ≠ t) (q1 : q ≠ t) (r1 : r ≠ t) :
    Calls Tryz.prog 337 #[.string b, .pointer (some ⟨p, 0, none⟩), .pointer (some ⟨q, 0, none⟩), .pointer (some ⟨r, 0, none⟩)] w (Ans (EffR t n w f (listR 41 3 zQ Rx o) (countSp (most : Int) Spx b))) := by
  have HR := Lib.hid hR
  have HSZ := Lib.hid hsz
  have HONE := Lib.hid hone
  have HO := Lib.hid ho
  have HB := Lib.hid hb
  have HT := Lib.hid ht
  have HF := Lib.hid hf
  have HEV := Lib.hid hev
  have HP := Lib.hid hp
  have HQ := Lib.hid hq
  have HRR := Lib.hid hr
  have HM := Lib.hid hmost
  have PQ := Lib.hid (And.intro p1 (And.intro q1 r1))
  obtain ⟨X, hX⟩ : ∃ X, countSp (most : Int) Spx b = X := ⟨_, rfl⟩
  rw [hX]
  have HX := Lib.hid hX
  clear hX hR hsz hone ho hb ht hf hev hp hq hr hmost p1 q1 r1
  go_enter Tryz.func337, Tryz.ntmps337
  go_upto_region 2 with fail
  have k1 := Blk.cell1 w (.int .i64 0) 3
  have b1 := (Below.refl w.heap.size w).alloc (Nat.le_refl _) (.cells #[.int .i64 0] 3)
  have z1 : w.heap.size < (w.alloc (.cells #[.int .i64 0] 3)).heap.size := by simp
  generalize w.alloc (.cells #[.int .i64 0] 3) = w1 at *
  have cp := keep_cell HP.out b1
  go_wp2_with fail
  have p1 := HP.out
  refine (mk_num w.heap.size 0 1 0 (most : Int) w1 (by omega) z1).mono ?_
  rintro e w2 ⟨kv, ev, rfl, hb2, hv⟩
  have K2 := Lib.hid (k1.below hb2 z1)
  have B2 := Lib.hid (b1.trans (hb2.mono b1.size))
  have HV := Lib.hid hv
  clear k1 b1 z1 hb2 hv cp p1
  clear w1
  obtain ⟨N1, hN1⟩ : ∃ N1, w.heap.size = N1 := ⟨_, rfl⟩
  rw [hN1] at K2 HV ⊢
  have HN1 := Lib.hid hN1
  clear hN1
  go_wp2_with (with_reducible refine hold_callv rfl rfl ?_)
  refine wpl_callv (v := .func (.func kv) #[] ev) (args := #[.string b]) _ rfl rfl rfl (by simp [Act.eval]) (HV.out _ b w2 HB.out (Keep.refl _ _) K2.out) Ans.ret ?_
  intro u w3 hu
  obtain ⟨ok, r0, hr, he⟩ := hu
  injection hr with hr
  subst hr
  rcases hsp : numSp 0 (most : Int) b with _ | ⟨r', N⟩
  · rw [hsp] at he
    obtain ⟨rfl, f', c3⟩ := he
    have B3 := Lib.hid (B2.out.trans (c3.1.below (by rw [HN1.out]; exact Nat.le_refl _) B2.out.size))
    have HS := Lib.hid hsp
    clear c3 hsp
    go_wp2_with fail
    go_ret2
    refine ⟨false, _, rfl, ?_⟩
    rw [← HX.out, count_none HS.out]
    exact ⟨rfl, f, keep_of_below B3.out (Nat.le_refl _) t, HT.out.below B3.out HT.out.lt⟩
  · rw [hsp] at he
    obtain ⟨rfl, rfl, c3⟩ := he
    have B3 := Lib.hid (B2.out.trans (c3.1.below (by rw [HN1.out]; exact Nat.le_refl _) B2.out.size))
    have HS := Lib.hid hsp
    have cn : w3.cell? ⟨N1, 0, none⟩ = some (.int .i64 (N : Int)) := c3.2.get 0 (by omega)
    have hN : N ≤ most := by have := (numSp_sound hsp).2.2; omega
    have HNM := Lib.hid hN
    have I0 : LInvQ t n o 41 Spx Rx w f r0 N w3 0 r0 := by
      refine ⟨keep_of_below B3.out (Nat.le_refl _) t, by have := numSp_size hsp; have := HB.out; omega, .slice none 0 0, [], [], ?_, ?_, rfl, ?_⟩
      · refine (HT.out.below B3.out HT.out.lt).congr _ fun i _ => ?_
        by_cases h : i = o
        · subst h; rw [HF.out]; simp [put]
        · simp [put, h]
      · exact ⟨World.ownsRow_nil _ _ _ _, (fun c hc => by cases hc), (fun i d hd => by simp at hd)⟩
      · rw [Nat.sub_zero]
        rcases repSp Spx N r0 with _ | ⟨r, l⟩ <;> rfl
    have HI := Lib.hid I0
    clear c3 hsp hN I0 K2 HV B2
    go_wp2_with fail
    clear cn
    go_loopw [0, 20] (fun vb vi wr => ∃ (j : Nat) (b' : ByteArray), j ≤ N ∧ vi = .int .i64 (j : Int) ∧ vb = .string b' ∧ LInvQ t n o 41 Spx Rx w f r0 N wr j b') (fun _ v _ => N - (intOf v).toNat)
    case atStart => exact ⟨0, r0, Nat.zero_le _, rfl, rfl, HI.out⟩
    case round =>
      clear HI
      obtain ⟨j, b', hj, rfl, rfl, hI⟩ := hrel
      have HI := Lib.hid hI
      clear hI
      have j0 : (0 : Int) ≤ (j : Int) := by omega
      have jb : (j : Int) ≤ 100 := by have := HM.out; have := HNM.out; omega
      by_cases hlt : j < N
      · have hlt' : (j : Int) < (N : Int) := by omega
        have HLT := Lib.hid hlt
        clear hlt hj
        go_upto_region 8 with fail
        have c4 := Lib.hid (show Blk (wr.alloc (.cells #[.int .i64 0, .int .i64 0, .string ⟨#[]⟩] 41)) wr.heap.size 3 zQ from Blk.new _ _ _ _ _ rfl)
        have b4 := (Below.refl wr.heap.size wr).alloc (Nat.le_refl _) (.cells #[.int .i64 0, .int .i64 0, .string ⟨#[]⟩] 41)
        generalize wr.alloc (.cells #[.int .i64 0, .int .i64 0, .string ⟨#[]⟩] 41) = w4 at *
        have cq := keep_cell (keep_cell2 HQ.out PQ.out.2.1 HI.out.kp) b4
        have B4 := Lib.hid b4
        clear b4
        obtain ⟨tx, htx⟩ : ∃ tx, wr.heap.size = tx := ⟨_, rfl⟩
        rw [htx] at c4 ⊢
        have HTX := Lib.hid htx
        clear htx
        go_wp2_with (with_reducible refine hold_callv rfl rfl ?_)
        refine wpl_callv (v := .func (.func kev) #[] env) (args := #[.pointer (some ⟨tx, 0, none⟩)]) _ rfl rfl rfl (by simp [Act.eval]) (HEV.out tx w4 c4.out.lt) (fun _ _ ⟨_, _, h, _⟩ => ⟨_, h⟩) ?_
        rintro u w5 ⟨k2, env2, hu, hb5, hcv⟩
        injection hu with hu
        subst hu
        have c5 := Lib.hid (c4.out.below hb5 c4.out.lt)
        have B5 := Lib.hid (B4.out.trans (hb5.mono B4.out.size))
        have HCV := Lib.hid hcv
        clear hb5 hcv cq
        go_wp2_with (with_reducible refine hold_callv rfl rfl ?_)
        refine wpl_callv (v := .func (.func k2) #[] env2) (args := #[.string b']) _ rfl rfl rfl (by simp [Act.eval]) (HCV.out zQ b' w5 HI.out.small (Keep.refl _ _) c5.out (fun _ _ => rfl)) Ans.ret ?_
        intro u w6 hu
        obtain ⟨ok, r1, hr, he⟩ := hu
        injection hr with hr
        subst hr
        obtain ⟨sv, l, xs, hblk, hel, hll, hrep⟩ := HI.out.ex
        have hNj : N - j = (N - j - 1) + 1 := by have := HLT.out; omega
        rw [hNj] at hrep
        rcases hsx : Spx b' with _ | ⟨r2, d⟩
        · unfold EffR at he
          rw [hsx] at he
          obtain ⟨rfl, g, k6, d6⟩ := he
          have hfin : X = none := by
            rw [← HX.out, count_some HS.out, hrep]
            unfold repSp
            rw [hsx]
          have HFIN := Lib.hid hfin
          have b6 := Lib.hid (B5.out.trans (k6.below (by rw [HTX.out]; exact Nat.le_refl _) B5.out.size))
          have HBK := Lib.hid hblk
          clear k6 d6 hblk hel hll hrep hsx hNj hfin
          go_wp2_with fail
          go_ret2
          refine ⟨false, _, rfl, ?_⟩
          rw [HFIN.out]
          exact ⟨rfl, _, HI.out.kp.trans (keep_of_below b6.out (Nat.le_refl _) t), HBK.out.below b6.out HBK.out.lt⟩
        · unfold EffR at he
          rw [hsx] at he
          obtain ⟨rfl, rfl, g, k6, d6, hrx⟩ := he
          have K6 := Lib.hid d6
          have b6 := Lib.hid (B5.out.trans (k6.below (by rw [HTX.out]; exact Nat.le_refl _) B5.out.size))
          have HBK := Lib.hid hblk
          have HEL := Lib.hid hel
          have HLL := Lib.hid hll
          have HSX := Lib.hid hsx
          have HRX := Lib.hid hrx
          have HRP := Lib.hid hrep
          have KP6 := Lib.hid (HI.out.kp.trans (keep_of_below b6.out (Nat.le_refl _) t))
          have BK6 := Lib.hid (HBK.out.below b6.out HBK.out.lt)
          clear k6 d6 hblk hel hll hrep hsx hNj hrx
          go_upto_region 11 with fail
          have cr : w6.cell? ⟨r, 0, none⟩ = some (.pointer (some ⟨t, o, none⟩)) := keep_cell2 HRR.out PQ.out.2.2 KP6.out
          have ct : w6.cell? ⟨t, o, none⟩ = some sv := by have := BK6.out.get o HO.out; simpa [put] using this
          have ft := BK6.out.frz o
          have x0 : w6.cell? ⟨tx, 0, none⟩ = some (g 0) := K6.out.get 0 (by omega)
          have x1 : w6.cell? ⟨tx, 1, none⟩ = some (g 1) := K6.out.get 1 (by omega)
          have x2 : w6.cell? ⟨tx, 2, none⟩ = some (g 2) := K6.out.get 2 (by omega)
          have hbk := BK6.out.lt
          obtain ⟨i0, hi0, hz0, hz1, hz2⟩ := info_parts (show (Tryz.prog.info? 41).map (fun i => (i.zero, i.size, i.bytes)) = some (some (.agg #[.int .i64 0, .int .i64 0, .string ⟨#[]⟩]), 3, 32) by kernel_rfl)
          have bA : Below w6.heap.size w6 (({ w6 with drawn := w6.drawn + 1 } : World).alloc (.cells #[g 0, g 1, g 2] 41)) := ((show Same w6 { w6 with drawn := w6.drawn + 1 } from ⟨rfl, rfl, rfl, rfl⟩).below _).alloc (Nat.le_refl _) _
          have hw := HI.out.kp.size
          have hrow : ∀ c, sv.ownBlock = some c → w.heap.size ≤ c ∧ c < wr.heap.size := fun c hc => ⟨owns_ge HEL.out.row c hc, HEL.out.top c hc⟩
          have HROW := Lib.hid hrow
          have HA := Lib.hid bA
          have hown : (({ w6 with drawn := w6.drawn + 1 } : World).alloc (.cells #[g 0, g 1, g 2] 41)).ownsRow w.heap.size 41 3 sv l.length xs := owns_keep HEL.out.row fun c hc => (bA.block c (by have := (hrow c hc).2; have := b6.out.size; omega)).trans (b6.out.block c (hrow c hc).2)
          have HOWN := Lib.hid hown
          have HCS := Lib.hid (HONE.out _ _ _ _ _ HRX.out)
          clear hrow hown
          refine app_region (a1 := ?a1) [0, 1, 2, 4] 3 5 6 7 8 _ _ _ _ _ 34 36 37 38 (fun w' => w'.cell? ⟨r, 0, none⟩ = some (.pointer (some ⟨t, o, none⟩)) ∧ w'.cell? ⟨tx, 0, none⟩ = some (g 0) ∧ w'.cell? ⟨tx, 1, none⟩ = some (g 1) ∧ w'.cell? ⟨tx, 2, none⟩ = some (g 2)) sv (.slice (some ⟨w6.heap.size, 0, none⟩) 1 1) (.pointer (some ⟨t, o, none⟩)) (.cells #[g 0, g 1, g 2] 41) (by kernel_rfl) (by kernel_rfl) (fun _ _ d _ _ h => by cases d <;> exact h) rfl rfl rfl rfl rfl ⟨rfl, rfl, rfl, rfl, rfl⟩ rfl rfl rfl rfl rfl (by decide) ?hS0 ?hS5 ?hread ?h3 ?h5 ?h6
          case hS0 => exact ⟨cr, x0, x1, x2⟩
          case hS5 => exact ⟨cell_b cr bA, cell_b x0 bA, cell_b x1 bA, cell_b x2 bA⟩
          case hread =>
            simp only [pick, List.filterMap, List.getElem?_toArray, List.getElem?_cons_zero, List.getElem?_cons_succ]
            iterate 4 (refine heldg_run ?_ rfl ?_ ?_; rotate_left; (focus (intro w' hS; obtain ⟨s0, s1, s2, s3⟩ := hS; go_simp; exact rfl)); simp only [Act.put, List.setIfInBounds_toArray, List.set_cons_zero, List.set_cons_succ])
            exact rfl
          case h3 =>
            intro a' ha' w' hw'
            have ct' : w'.cell? ⟨t, o, none⟩ = some sv := by
              rcases hw' with rfl | rfl
              · exact ct
              · exact cell_b ct bA
            rcases ha' with rfl | rfl
            · go_simp
            · go_simp
          case h5 =>
            intro a' ha'
            rcases ha' with rfl | rfl
            · go_simp
            · go_simp
          case h6 =>
            refine app_mk (.tmp 34) (.tmp 36) 34 rfl w.heap.size 41 i0 (.agg #[.int .i64 0, .int .i64 0, .string ⟨#[]⟩]) 3 32 Tryz.underlying34 hi0 hz0 hz1 hz2 rfl (by decide) sv l.length xs rfl HOWN.out ⟨w6.heap.size, 0, none⟩ 1 1 [g 0, g 1, g 2] rfl rfl ?hnews ?hone (by have := HLL.out; have := HLT.out; have := HNM.out; have := HM.out; unfold maxLen; omega) (by have := HLL.out; have := HLT.out; have := HNM.out; have := HM.out; omega) (by have := KP6.out.size; have := HA.out.size; omega) ?hK
            case hnews =>
              intro y u hy
              rw [WideShapes.add_plain, Nat.zero_add]
              exact cell_new { w6 with drawn := w6.drawn + 1 } #[g 0, g 1, g 2] 41 y u (by simpa using hy)
            case hone =>
              intro u hu
              simp only [List.mem_cons, List.not_mem_nil, or_false] at hu
              rcases hu with rfl | rfl | rfl
              all_goals exact HCS.out _ (by decide)
            case hK =>
            intro v6 w7 own7 grow loc
            obtain ⟨g7, cap7, rfl⟩ := Joins.ownsRow_form own7 (Nat.succ_pos _)
            have z6 := HA.out.size
            have y6 := b6.out.size
            have rne : ∀ c, sv.ownBlock = some c → r ≠ c := fun c hc => by
              have := (HROW.out c hc).1
              have := World.block_lt_of_cell? w _ HRR.out
              have : r < w.heap.size := this
              omega
            have tne : ∀ c, sv.ownBlock = some c → t ≠ c := fun c hc => by have := (HROW.out c hc).1; have := HT.out.lt; omega
            have xne : ∀ c, sv.ownBlock = some c → tx ≠ c := fun c hc => by have := (HROW.out c hc).2; have := HTX.out; omega
            have cr7 := cell_g (cell_b cr HA.out) grow rne
            have ct7 := cell_g (cell_b ct HA.out) grow tne
            have blk7 : Blk w7 t n (put f o sv) := (BK6.out.below HA.out BK6.out.lt).of_heap (grow.block t (by have := BK6.out.lt; omega) (fun h => tne t h.symm rfl))
            have ft7 := blk7.frz o
            refine ⟨⟨cr7, cell_g (cell_b x0 HA.out) grow xne, cell_g (cell_b x1 HA.out) grow xne, cell_g (cell_b x2 HA.out) grow xne⟩, ?_, ?_⟩
            · go_simp
            refine ⟨w7.setCell ⟨t, o, none⟩ (.slice (some ⟨g7, 0, none⟩) (l.length + 1) cap7), by go_simp, ?_⟩
            have u8 := Upd.set w7 t o (.slice (some ⟨g7, 0, none⟩) (l.length + 1) cap7)
            have blk8 := (blk7.set o (.slice (some ⟨g7, 0, none⟩) (l.length + 1) cap7)).congr (put f o (.slice (some ⟨g7, 0, none⟩) (l.length + 1) cap7)) fun i _ => by
              by_cases h : i = o
              · subst h; simp [put]
              · simp [put, h]
            generalize w7.setCell ⟨t, o, none⟩ (.slice (some ⟨g7, 0, none⟩) (l.length + 1) cap7) = w8 at *
            have xt : tx ≠ t := by have := HTX.out; have := HT.out.lt; omega
            refine ⟨⟨cell_u cr7 u8 PQ.out.2.2, cell_u (cell_g (cell_b x0 HA.out) grow xne) u8 xt, cell_u (cell_g (cell_b x1 HA.out) grow xne) u8 xt, cell_u (cell_g (cell_b x2 HA.out) grow xne) u8 xt⟩, ?_⟩
            have hel8 := elems_step (R := Rx) (w5 := w5) (d := d) (g := g) (news := [g 0, g 1, g 2]) HR.out HT.out.lt hw HEL.out b6.out B5.out.size HRX.out HA.out own7 (fun j hj => by match j, hj with | 0, _ => rfl | 1, _ => rfl | 2, _ => rfl) grow loc u8
            have kp8 := keep_step HEL.out KP6.out HA.out grow u8
            have HL8 : Hid (LInvQ t n o 41 Spx Rx w f r0 N w8 (j + 1) r1) := Lib.hid ⟨kp8, by have := HSZ.out _ _ _ HSX.out; have := HI.out.small; omega, _, l ++ [d], xs ++ [g 0, g 1, g 2], blk8, hel8, by rw [List.length_append, List.length_singleton, HLL.out], by
              have := rep_snoc HSX.out HRP.out
              rwa [show N - j - 1 = N - (j + 1) by omega] at this⟩
            simp only [Act.put, List.setIfInBounds_toArray, List.set_cons_zero, List.set_cons_succ]
            clear hel8 kp8 blk8 u8 grow loc own7 cr7 ct7 blk7 ft7 rne tne xne z6 y6 cr ct ft hbk bA hw
            go_wp2_with fail
            go_roundw
            case rel => exact ⟨j + 1, r1, by have := HLT.out; omega, by go_num, rfl, HL8.out⟩
            case measure => have := HLT.out; simp [intOf]; omega
      · obtain rfl : j = N := by omega
        have hlt' : ¬ (j : Int) < (j : Int) := by omega
        clear hlt hj
        go_wp2_with fail
        go_ret2
        refine ⟨true, _, rfl, ?_⟩
        obtain ⟨sv, l, xs, h1, h2, h3, h4⟩ := HI.out.ex
        rw [Nat.sub_self] at h4
        have h5 : repSp Spx j r0 = some (b', l) := by rw [h4]; show some (b', l ++ []) = _; rw [List.append_nil]
        rw [← HX.out, count_some HS.out, h5]
        exact ⟨rfl, rfl, _, HI.out.kp, h1, sv, xs, rfl, h2⟩
end Go.Proofs.YthajnkcipifhcaaGreatDoor
end
section
open Go Go.RowKit
namespace Go.Proofs.YthajnkcipifhcaaGreatDoor
open WW BB
set_option maxRecDepth 100000 in
theorem mk_listQ {δ : Type} (Spx : ByteArray → Option (ByteArray × δ)) (Rx : RelT δ) (hR : SoundR Rx) (hsz : ∀ b r x, Spx b = some (r, x) → r.size ≤ b.size) (hone : ∀ d w lo hi g, Rx d w lo hi zQ g → ∀ i, i < 3 → (g i).oneCell' = true)
    (t o n most : Nat) (kev : Nat) (env : Array Value) (w : World) (hmost : most ≤ 100) (ho : o < n) (ht : t < w.heap.size) (hev : EachR Tryz.prog (.func (.func kev) #[] env) 3 zQ Spx Rx) :
    Calls Tryz.prog 314 #[.pointer (some ⟨t, o, none⟩), .int .i64 (most : Int), .func (.func kev) #[] env] w (MakesR Tryz.prog t n w (fun f => f o = .slice none 0 0) (countSp (most : Int) Spx) (listR 41 3 zQ Rx o)) := by
  have HR := Lib.hid hR
  have HSZ := Lib.hid hsz
  have HONE := Lib.hid hone
  have HO := Lib.hid ho
  have HT := Lib.hid ht
  have HM := Lib.hid hmost
  have HEV := Lib.hid hev
  clear hR hsz hone ho ht hmost hev
  go_enter Tryz.func314, Tryz.ntmps314
  go_wp2_with fail
  go_ret
  have b1 := (Below.refl w.heap.size w).alloc (Nat.le_refl _) (.cells #[.pointer (some ⟨t, o, none⟩)] 342)
  have b2 := b1.alloc b1.size (.cells #[.int .i64 (most : Int)] 3)
  have b3 := b2.alloc b2.size (.cells #[.func (.func kev) #[] env] 343)
  have := HT.out
  refine ⟨_, _, rfl, b3, fun f b wx hb hk hx hp => ⟨_, _, rfl, own_listQ, ?_⟩⟩
  refine listQ_walk Spx Rx HR.out HSZ.out HONE.out t n o (w.heap.size + 1) (w.heap.size + 2) w.heap.size most kev env f b wx HM.out HO.out hb hx hp HEV.out ?_ ?_ ?_ (by omega) (by omega) (by omega)
  · exact keep_cell2 (cell_old (cell_at _ _ _ _ (by simp))) (by omega) hk
  · exact keep_cell2 (cell_at _ _ _ _ (by simp)) (by omega) hk
  · exact keep_cell2 (cell_old (cell_old (cell_at _ _ _ _ rfl))) (by omega) hk
end Go.Proofs.YthajnkcipifhcaaGreatDoor
end
section
open Go Go.RowKit
namespace Go.Proofs.YthajnkcipifhcaaGreatDoor
open WW BB
theorem order_cutR {δ : Type} {t n gc bx cap : Nat} {W : World} {vs : List Value} {Pre : (Nat → Value) → Prop} {Sp : ByteArray → Option (ByteArray × δ)} {R : RelT δ} (h : OrdR Tryz.prog t n vs W Pre Sp R) (hE : InRow gc vs W) (hb : W.cell? ⟨bx, 0, none⟩ = some (.slice (some ⟨gc, 0, none⟩) vs.length cap)) (gt : gc ≠ t) (gl : gc < W.heap.size) (bt : bx ≠ t) (hlen : vs.length ≤ 100) :
    CutR Tryz.prog t n (.func (.func 304) #[] #[.pointer (some ⟨bx, 0, none⟩)]) W Pre Sp R := by
  intro f b w hs hk ht hp
  refine ⟨_, _, rfl, own_order, ?_⟩
  refine order_any vs bx gc cap _ b w hlen (keep_cell2 hb bt hk) (InRow_keep hE gt gl hk) ?_
  refine h (InRow gc vs) (EffR t n w f R (Sp b)) f b w hs hk ht hp (fun w1 h1 => InRow_keep hE gt gl h1) fun ok r w' he => ?_
  unfold EffR at he ⊢
  rcases hS : Sp b with _ | ⟨r', d⟩ <;> rw [hS] at he
  · exact he
  · obtain ⟨rfl, h2⟩ := he
    exact ⟨rfl, h2⟩
theorem own_tag : Own Tryz.prog 310 := ⟨_, Tryz.func310, by kernel_rfl, by kernel_rfl⟩
set_option maxRecDepth 100000 in
theorem each_tag : EachR Tryz.prog (.func (.func 310) #[] #[]) 1 zS (bytesSp 16) (strR 0) := by
  intro tx w ht
  refine ⟨_, _, rfl, own_tag, ?_⟩
  have HT := Lib.hid ht
  clear ht
  go_enter Tryz.func310, Tryz.ntmps310
  go_wp2_with fail
  refine (mk_bytes tx 0 1 16 w (by omega) HT.out).mono ?_
  rintro e w1 ⟨k1, env1, rfl, hb1, hv1⟩
  have HB := Lib.hid hb1
  have HV := Lib.hid hv1
  clear hb1 hv1
  go_wp2_with fail
  go_ret
  exact ⟨_, _, rfl, HB.out, (cutr_str HV.out).weak (fun _ _ => trivial) (fun _ _ _ _ _ _ h => h)⟩
theorem one_tag : ∀ (d : ByteArray) (w : World) (lo hi : Nat) (g : Nat → Value), strR 0 d w lo hi zS g → ∃ x, g 0 = .string x := fun d _ _ _ g h => ⟨d, by rw [show g = put zS 0 (.string d) from h]; simp [put]⟩
/-- a signature's tags, from cell o on -/
def sigR (o : Nat) : RelT (Int × List ByteArray) := seqR (numR o) (listR 9 1 zS (strR 0) (o + 1))
theorem sound_sig (o : Nat) : SoundR (sigR o) := (sound_num o).seq (sound_list (sound_str 0))
set_option maxRecDepth 100000 in
set_option maxHeartbeats 2000000 in
theorem mk_sig (t o n : Nat) (w : World) (ho : o + 1 < n) (ht : t < w.heap.size) :
    Calls Tryz.prog 271 #[.pointer (some ⟨t, o, none⟩)] w (MakesR Tryz.prog t n w (fun f => f (o + 1) = .slice none 0 0) sigI (sigR o)) := by
  have HO := Lib.hid ho
  have HT := Lib.hid ht
  clear ho ht
  go_enter Tryz.func271, Tryz.ntmps271
  go_wp2_with fail
  have z0 : t < w.drew.heap.size := HT.out
  go_region_held3 (fun w' => t < w'.heap.size) (first | assumption | exact hk | (simp; omega))
    (first
      | (go_at_call 268; refine (mk_num t _ n _ _ _ (by have := HO.out; omega) (by assumption)).mono ?_; rintro e w1 ⟨k1, env1, rfl, hb1, hv1⟩; have hk := Nat.lt_of_lt_of_le (by assumption : t < _) hb1.size; have HB1 := Lib.hid hb1; have HV1 := Lib.hid hv1; clear hb1 hv1)
      | (go_at_call 309; refine (mk_listS (bytesSp 16) (strR 0) (sound_str 0) (fun _ _ _ h => (codec_bytes 16).size h) one_tag t _ n 7 _ _ _ (by omega) (by have := HO.out; omega) (by assumption) each_tag).mono ?_; rintro e w2 ⟨k2, env2, rfl, hb2, hv2⟩; have hk := Nat.lt_of_lt_of_le (by assumption : t < _) hb2.size; have HB2 := Lib.hid hb2; have HV2 := Lib.hid hv2; clear hb2 hv2)
      | (go_at_call 267; refine (mk_order _ _ _ _).mono ?_; rintro e w5 ⟨rfl, hb5, hv5⟩; have hk := Nat.lt_of_lt_of_le (by assumption : t < _) hb5.size; have HB5 := Lib.hid hb5; have HV5 := Lib.hid hv5; clear hb5 hv5))
  obtain ⟨W4, hW4⟩ : ∃ W4, W4 = w2.alloc (.cells #[.func (.func k1) #[] env1, .func (.func k2) #[] env2] 294) := ⟨_, rfl⟩
  rw [← hW4] at HB5 HV5
  have z4 : W4.heap.size = w2.heap.size + 1 := by rw [hW4]; simp
  have b4 : Below w2.heap.size w2 W4 := by rw [hW4]; exact (Below.refl _ _).alloc (Nat.le_refl _) _
  have hrow : InRow w2.heap.size [.func (.func k1) #[] env1, .func (.func k2) #[] env2] W4 := by
    rw [hW4]
    intro i hi
    match i, hi with
    | 0, _ => exact cell_new _ _ _ _ _ rfl
    | 1, _ => exact cell_new _ _ _ _ _ rfl
  have t2 : t < w2.heap.size := Nat.lt_of_lt_of_le HT.out (Nat.le_trans HB1.out.size HB2.out.size)
  have k5 : Keep t W4 w5 := keep_of_below HB5.out (Nat.le_refl _) t
  have k2' : Keep t w2 w5 := (keep_of_below b4 (Nat.le_refl _) t).trans k5
  have k1' : Keep t w1 w5 := (keep_of_below HB2.out (Nat.le_refl _) t).trans k2'
  have ord : OrdR Tryz.prog t n [.func (.func k1) #[] env1, .func (.func k2) #[] env2] w5 (fun f => f (o + 1) = .slice none 0 0) sigI (sigR o) :=
    (OrdR.one ((cutr_num (HV1.out.later k1')).weak (fun _ _ => trivial) (fun _ _ _ _ _ _ h => h))).app (HV2.out.later k2') (sound_num o) (sound_list (sound_str 0)) (fun b r x h => (codec_num 0 6 (by omega) (by omega)).size h) (fun d w lo hi f g hp hg => by
      rw [show g = put f o (.int .i64 d) from hg]; simpa [put] using hp)
  have hto := Lib.hid (order_cutR (cap := 2) (bx := W4.heap.size) ord (InRow_keep hrow (by omega) (by omega) k5) HV5.out (by omega) (by have := HB5.out.size; omega) (by omega) (by simp))
  have hbel : Hid (Below w.heap.size w w5) := by
    have e0 : Below w.heap.size w w.drew := (Below.refl _ _).drew
    have e1 := e0.trans HB1.out
    have e2 := e1.trans (HB2.out.mono e1.size)
    have e4 := e2.trans (b4.mono e2.size)
    exact Lib.hid (e4.trans (HB5.out.mono e4.size))
  rw [z4] at hto
  clear hrow k5 k2' k1' hW4 b4 ord
  go_wp2_with fail
  go_ret
  exact ⟨_, _, rfl, hbel.out, hto.out⟩
theorem own_sig : Own Tryz.prog 271 := ⟨_, Tryz.func271, by kernel_rfl, by kernel_rfl⟩
theorem each_sig : EachR Tryz.prog (.func (.func 271) #[] #[]) 2 zG sigI (sigR 0) := fun tx w ht =>
  ⟨_, _, rfl, own_sig, (mk_sig tx 0 2 w (by omega) ht).mono fun e w' ⟨k, env, h1, h2, h3⟩ => ⟨k, env, h1, h2, h3.weak (fun f hf => by rw [hf 1 (by omega)]; rfl) (fun _ _ _ _ _ _ h => h)⟩⟩
theorem one_sig : ∀ (d : Int × List ByteArray) (w : World) (lo hi : Nat) (g : Nat → Value), sigR 0 d w lo hi zG g → ∀ i, i < 2 → (g i).oneCell' = true := by
  rintro d w lo hi g ⟨g1, h1, sv, xs, h2, h3⟩ i hi
  subst h2
  rw [show g1 = put zG 0 (.int .i64 d.1) from h1]
  match i, hi with
  | 0, _ => rfl
  | 1, _ => rcases Joins.ownsRow_forms h3.row with ⟨rfl, _⟩ | ⟨g, cap, rfl⟩ <;> rfl
/-- a request, from cell o on -/
def reqR (o : Nat) : RelT (Int × Int × ByteArray) := fun d _ _ _ f f' => f' = put (put (put f o (.int .i64 d.1)) (o + 1) (.int .i64 d.2.1)) (o + 2) (.string d.2.2)
theorem sound_req (o : Nat) : SoundR (reqR o) := ⟨fun h _ => h, fun h _ _ => h⟩
theorem cutr_req {P : Program} {t n o : Nat} {v : Value} {W : World} (h : CutTo P t n v W reqSp (putReq o)) : CutR P t n v W (fun _ => True) reqI (reqR o) :=
  h.toR.map (g := fun d : Nat × Nat × ByteArray => ((d.1 : Int), (d.2.1 : Int), d.2.2)) (fun _ _ _ _ _ _ h => h)
theorem each_req : EachR Tryz.prog (.func (.func 315) #[] #[]) 3 zQ reqI (reqR 0) := fun tx w ht =>
  ⟨_, _, rfl, ⟨_, Tryz.func315, by kernel_rfl, by kernel_rfl⟩, (mk_request tx 0 3 w (by omega) ht).mono fun e w' ⟨k, env, h1, h2, h3⟩ => ⟨k, env, h1, h2, (cutr_req h3).weak (fun _ _ => trivial) (fun _ _ _ _ _ _ h => h)⟩⟩
theorem one_req : ∀ (d : Int × Int × ByteArray) (w : World) (lo hi : Nat) (g : Nat → Value), reqR 0 d w lo hi zQ g → ∀ i, i < 3 → (g i).oneCell' = true := by
  intro d w lo hi g h i hi
  rw [show g = _ from h]
  match i, hi with
  | 0, _ => rfl
  | 1, _ => rfl
  | 2, _ => rfl
end Go.Proofs.YthajnkcipifhcaaGreatDoor
end
