/-
  The walk of the reference's Once.
-/
import Derived.Test.YtacbamfhlgchgaaDoorKJRefT
import Derived.Test.YtacbamfhlgchgaaDoorKJUnlike
import Derived.Test.YtacbamfhlgchgaaDoorKJRow
import Derived.Test.YtacbamfhlgchgaaDoorKPlanT
import Derived.Test.YtacbamfhlgchgaaDoorKPlanE
open Go Go.RowKit
namespace JJ
open BB WW
/-- what has come of the i first requests -/
structure OnSt (w0 : World) (e : TypeId) (l : List Rq) (i : Nat) (x : Value) (wr : World) : Prop where
  row : wr.ownsRow w0.heap.size e 3 x (onceN 3 (l.take i)).length (cellsR (onceN 3 (l.take i)))
  below : Below w0.heap.size w0 wr
  shape : ∃ a c, x = .slice a (onceN 3 (l.take i)).length c
theorem cellsR_one (l : List Rq) : ∀ u ∈ cellsR l, u.oneCell' = true := by
  intro u hu
  unfold cellsR at hu
  rw [List.mem_flatten] at hu
  obtain ⟨c, hc, hu⟩ := hu
  obtain ⟨x, _, rfl⟩ := List.mem_map.1 hc
  simp only [List.mem_cons, List.not_mem_nil, or_false] at hu
  rcases hu with rfl | rfl | rfl <;> rfl
end JJ
namespace Go.Proofs.YtacbamfhlgchgaaDoor
open JJ WW BB
set_option maxRecDepth 100000 in
set_option maxHeartbeats 16000000 in
theorem ronce_any (l : List Rq) (v : Value) (w : World) (hv : ReqsAt w v l) (hl : l.length ≤ 1000) :
    Calls Tryd.prog 7 #[v] w fun e w' => ∃ u, e = .returned u ∧ ReqsAt w' u (onceN 3 l) ∧ Below w.heap.size w w' := by
  have HV := Lib.hid hv
  have HL := Lib.hid hl
  obtain ⟨a0, cap, rfl, hx⟩ := hv
  have HX := Lib.hid hx
  clear hl hx
  go_enter Tryd.func7, Tryd.ntmps7
  go_wp2_with fail
  go_loopw [3, 4] (fun x y wr => ∃ i : Nat, i ≤ l.length ∧ y = .int .i64 (i : Int) ∧ OnSt w 34 l i x wr) (fun _ y _ => l.length - (intOf y).toNat)
  case atStart => exact ⟨0, Nat.zero_le _, rfl, World.ownsRow_nil _ _ _ _, Below.refl _ _, ⟨none, 0, rfl⟩⟩
  case round =>
    obtain ⟨i, hi, rfl, hst⟩ := hrel
    have HST := Lib.hid hst
    have i0 : (0 : Int) ≤ (i : Int) := by omega
    have ib : (i : Int) ≤ 1000 := by have := HL.out; omega
    obtain ⟨xa, xc, rfl⟩ := hst.shape
    obtain ⟨out, hout⟩ : ∃ out, onceN 3 (l.take i) = out := ⟨_, rfl⟩
    have HOUT := Lib.hid hout
    have HOL := Lib.hid (show out.length ≤ 3 by rw [← hout]; exact onceN_len 3 _)
    have hrow := hst.row
    rw [hout] at hrow ⊢
    have HROW := Lib.hid hrow
    clear hst hrow
    by_cases hlt : i < l.length
    · have hlt' : (i : Int) < (l.length : Int) := by omega
      by_cases hfull : out.length < 3
      · have hf : (out.length : Int) < 3 := by omega
        have HF := Lib.hid hfull
        have HLT := Lib.hid hlt
        have HSN := Lib.hid (onceN_snoc 3 l i hlt)
        have HND := Lib.hid (show (out.map keyR).Nodup by rw [← hout]; exact onceN_nodup 3 _)
        obtain ⟨b, off, rfl, hbw, hcell⟩ : ∃ b off, a0 = some ⟨b, off, none⟩ ∧ b < w.heap.size ∧ _ := by
          rcases HX.out with h | h
          · subst h; simp at hlt
          · exact h
        obtain ⟨q0, q1, q2⟩ := reqs_at HST.out.below hbw hcell i hlt
        have HQQ := Lib.hid (fun wx (hb : Below w.heap.size w wx) => reqs_at hb hbw hcell i hlt)
        obtain ⟨r, hr⟩ : ∃ r, l.getD i r0 = r := ⟨_, rfl⟩
        rw [hr] at q0 q1 q2
        rw [hout, hr] at HSN
        rw [hr] at HQQ
        obtain ⟨c, q, s⟩ := r
        have QB := Lib.hid (show b < wr.heap.size from Nat.lt_of_lt_of_le hbw HST.out.below.size)
        clear hi hlt hfull hbw hcell hr
        go_wp2_with fail
        refine two_abs [1, 3, 4, 5, 6] 0 2 7 16 18 23 [(false, 8), (false, 9), (true, 10)] _ _ _ 34 3 out.length (cellsR out) [.int .i64 c, .int .i64 q, .string s] (by kernel_rfl) (by kernel_rfl) (fun _ _ d _ _ h => by cases d <;> exact h) rfl rfl rfl ⟨rfl, rfl, rfl⟩ ⟨rfl, rfl, rfl⟩ ⟨by decide, by decide, by decide⟩ fun w2 hs2 => ?_
        have B2 := Lib.hid (hs2.below wr.heap.size)
        have Z2 := Lib.hid (show wr.heap.size = w2.heap.size by rw [hs2.heap])
        have R2 := Lib.hid (row_keep HROW.out fun c hc => B2.out.block c (HROW.out.lt c hc).2)
        have q0 := (hs2.cell ⟨b, off + i * 3, none⟩).trans q0
        have q1 := (hs2.cell ⟨b, off + i * 3 + 1, none⟩).trans q1
        have q2 := (hs2.cell ⟨b, off + i * 3 + 2, none⟩).trans q2
        have QB2 := Lib.hid (show b < w2.heap.size by rw [← Z2.out]; exact QB.out)
        clear hs2
        obtain ⟨ti, i1, i2, i3, i4⟩ := info_parts info_req
        simp only [pick, List.filterMap, List.getElem?_toArray, List.getElem?_cons_zero, List.getElem?_cons_succ]
        iterate 5 (refine held_run ?_ rfl ?_ ?_; rotate_left; (focus (intro w' hS; have e0 := (hS.cell (p := ⟨b, off + i * 3, none⟩) QB2.out).trans q0; have e1 := (hS.cell (p := ⟨b, off + i * 3 + 1, none⟩) QB2.out).trans q1; have e2 := (hS.cell (p := ⟨b, off + i * 3 + 2, none⟩) QB2.out).trans q2; go_simp; exact rfl)); simp only [Act.put, List.setIfInBounds_toArray, List.set_cons_zero, List.set_cons_succ])
        refine ⟨?_, ?_, ?_, ?_⟩
        · rintro a' (rfl | ⟨x, rfl⟩) w' <;> go_simp
        · rintro a' (rfl | ⟨x, rfl⟩ | ⟨x, z, rfl⟩) w' hb <;> go_simp
        · rintro b' a' ha w' hb hown
          obtain ⟨v', w'', hr, ho, hg, hob⟩ := run_append_row0 (P := Tryd.prog) w2.heap.size 25 25 34 ti (.agg #[.int .i64 0, .int .i64 0, .string ⟨#[]⟩]) 3 32 und_reqs i1 i2 i3 i4 rfl (by decide) b' hown (.slice xa out.length xc) out.length w.heap.size (cellsR out) (row_keep R2.out fun c hc => hb.block c (R2.out.lt c hc).2) (cellsR_one out) (by have := HOL.out; unfold maxLen; omega) (by have := HOL.out; omega) hb.size
          refine ⟨v', w'', ?_, ho, hg, hob⟩
          rcases ha with rfl | ⟨x, rfl⟩ | ⟨x, rfl⟩
          all_goals exact run_op_append _ _ _ rfl _ _ rfl rfl hr
        · intro b' v' b7 w' hT
          have HTW := Lib.hid hT
          clear hT
          simp only [Act.put, List.setIfInBounds_toArray, List.set_cons_zero, List.set_cons_succ]
          obtain ⟨u8, w8, hr8, ho8, hg8, _⟩ := run_append_own (P := Tryd.prog) w' w2.heap.size 25 25 34 ti (.agg #[.int .i64 0, .int .i64 0, .string ⟨#[]⟩]) 3 32 und_reqs i1 i2 i3 i4 rfl (by decide) v' out.length (cellsR out) HTW.out.row ⟨b7, 0, none⟩ 1 1 [.int .i64 c, .int .i64 q, .string s] rfl (fun j u hj => by rw [Addr.add_lit, Nat.zero_add]; exact HTW.out.cell j u hj) (cells3_one c q s) (by have := HOL.out; unfold maxLen; omega) (by have := HOL.out; omega) HTW.out.below.size
          have O8 := Lib.hid (show w8.ownsRow w2.heap.size 34 3 u8 (out ++ [(c, q, s)]).length (cellsR (out ++ [(c, q, s)])) by
            rw [cellsR_snoc, List.length_append]; exact ho8)
          have B8 := Lib.hid (HTW.out.below.grown hg8 HTW.out.below.size (fun k hk => (HTW.out.row.lt k hk).1))
          refine pl_value (w' := w8) _ u8 rfl rfl (run_op_append _ _ _ rfl _ _ rfl rfl hr8) B8.out ?_
          clear hr8 ho8 hg8
          simp only [Act.put, List.setIfInBounds_toArray, List.set_cons_zero, List.set_cons_succ, List.getElem_toArray, List.getElem_cons_zero, List.getElem_cons_succ]
          obtain ⟨X, hX⟩ : ∃ X, twiceR (out ++ [(c, q, s)]) = X := ⟨_, rfl⟩
          have HXX := Lib.hid (show X = decide (keyR (c, q, s) ∈ out.map keyR) by rw [← hX]; exact twice_snoc out (c, q, s) HND.out)
          refine pl_call1 _ rfl rfl (by go_simp) (hX ▸ rtwice_any (out ++ [(c, q, s)]) u8 w8 (reqs_of_own O8.out) (by rw [List.length_append]; have := HOL.out; simp; omega)) (fun w9 hb => B8.out.trans (hb.mono B8.out.size)) fun w9 hb9 => ?_
          have B9 := Lib.hid (B2.out.trans ((B8.out.trans (hb9.mono B8.out.size)).mono B2.out.size))
          have BW9 := Lib.hid (HST.out.below.trans (B9.out.mono HST.out.below.size))
          have R9 := Lib.hid (row_keep HROW.out fun c hc => B9.out.block c (HROW.out.lt c hc).2)
          clear hX hb9
          simp only [Act.put, List.setIfInBounds_toArray, List.set_cons_zero, List.set_cons_succ, List.getElem_toArray, List.getElem_cons_zero, List.getElem_cons_succ]
          iterate 1 (refine pl_run _ ?_ rfl rfl ?_ ?_; rotate_left; (focus (intro w' hS; go_simp; exact rfl)); simp only [Act.put, List.setIfInBounds_toArray, List.set_cons_zero, List.set_cons_succ, List.getElem_toArray, List.getElem_cons_zero, List.getElem_cons_succ])
          refine pl_end ?_
          clear q0 q1 q2
          by_cases hin : keyR (c, q, s) ∈ out.map keyR
          · obtain rfl : X = true := by rw [HXX.out]; simpa using hin
            have HEQ := Lib.hid (show onceN 3 (l.take (i + 1)) = out by rw [HSN.out]; unfold onceStepN; rw [if_neg (by rintro ⟨_, h⟩; exact h hin)])
            clear hin
            go_wp2_with fail
            go_roundw
            case rel => exact ⟨i + 1, by have := HLT.out; omega, by go_num, by rw [HEQ.out]; exact R9.out, BW9.out, ⟨xa, xc, by rw [HEQ.out]⟩⟩
            case measure => have := HLT.out; simp [intOf]; omega
          · obtain rfl : X = false := by rw [HXX.out]; simpa using hin
            have HEQ := Lib.hid (show onceN 3 (l.take (i + 1)) = out ++ [(c, q, s)] by rw [HSN.out]; unfold onceStepN; rw [if_pos ⟨HF.out, hin⟩])
            clear hin
            obtain ⟨q0, q1, q2⟩ := HQQ.out w9 BW9.out
            have A9 := Lib.hid ((Below.refl w9.heap.size w9).alloc (Nat.le_refl _) (.cells #[.int .i64 c, .int .i64 q, .string s] 34))
            have HQ3 := Lib.hid (show out.length + 1 ≤ maxLen by have := HOL.out; unfold maxLen; omega)
            have HQ4 := Lib.hid (show (out.length + 1) * 32 ≤ 140737488355328 by have := HOL.out; omega)
            go_wp2_with (at_builtin; refine wpList_append_own _ rfl _ _ 25 rfl w.heap.size 34 ti (.agg #[.int .i64 0, .int .i64 0, .string ⟨#[]⟩]) 3 32 und_reqs i1 i2 i3 i4 rfl (by decide) _ _ _ rfl (row_keep R9.out fun c hc => A9.out.block c (R9.out.lt c hc).2) ⟨w9.heap.size, 0, none⟩ 1 1 [.int .i64 c, .int .i64 q, .string s] rfl rfl (cells3_new w9 c q s _) (cells3_one c q s) HQ3.out HQ4.out (sz_alloc (Nat.le_trans BW9.out.size (Nat.le_refl _)) _) ?_)
            intro u' w10 hown' hgr _
            obtain ⟨a', c', rfl⟩ : ∃ a' c', u' = .slice a' (out.length + 1) c' := by
              rcases hown'.2 with ⟨_, h0⟩ | ⟨q, cp, cur, rfl, _⟩
              · omega
              · exact ⟨_, _, rfl⟩
            have HO' := Lib.hid hown'
            have BA := Lib.hid (BW9.out.trans (A9.out.mono BW9.out.size))
            have BF := Lib.hid (BA.out.grown hgr BA.out.size (fun k hk => (R9.out.lt k hk).1))
            clear hown' hgr q0 q1 q2
            go_wp2_with fail
            go_roundw
            case rel => exact ⟨i + 1, by have := HLT.out; omega, by go_num, by rw [HEQ.out, cellsR_snoc, List.length_append]; exact HO'.out, BF.out, ⟨a', c', by rw [HEQ.out, List.length_append]; rfl⟩⟩
            case measure => have := HLT.out; simp [intOf]; omega
      · have hf : ¬ (out.length : Int) < 3 := by omega
        have HF := Lib.hid hfull
        clear hi hlt hfull
        go_wp2_with fail
        go_ret
        have hfin : onceN 3 l = out := by rw [onceN_full 3 l i (by rw [HOUT.out]; have := HF.out; omega), HOUT.out]
        refine ⟨_, rfl, ?_, HST.out.below⟩
        rw [hfin]
        exact reqs_of_own HROW.out
    · obtain rfl : i = l.length := by omega
      have hlt' : ¬ (l.length : Int) < (l.length : Int) := by omega
      have HFIN := Lib.hid (show onceN 3 l = out by rw [← HOUT.out, List.take_length])
      clear hi hlt
      go_wp2_with fail
      go_ret
      refine ⟨_, rfl, ?_, HST.out.below⟩
      rw [HFIN.out]
      exact reqs_of_own HROW.out
end Go.Proofs.YtacbamfhlgchgaaDoor
