/-
  The laws of layer 10, of the code that landed.
-/
import Derived.Test.YtnahebfhhcebpaaKURecall
import Derived.Test.YtnahebfhhcebpaaKURight
import Derived.Test.YtnahebfhhcebpaaKGIdx
section
open Go Go.RowKit
namespace TT
open SS RR FF WW BB
/-- what is known of a memory's cells -/
structure MemIs (tS : TypeId) (O : Nat → Prop) (w : World) (m g : Nat) (st : MemT) (v : Value) : Prop where
  blk : Blk w m 4 (rowL [.pointer (some ⟨g, 0, none⟩), .int .i64 st.1.1, .int .i64 st.1.2, v])
  row : w.ownsRow 0 tS 1 v st.2.length ((st.2.map rcB).map Value.string)
  own : ∀ b, O b ↔ b = m ∨ v.ownBlock = some b
  ne : v.ownBlock ≠ some m
section
variable {tS : TypeId} {O : Nat → Prop} {w w' : World} {m g : Nat} {st : MemT} {v : Value}
theorem MemIs.keep (h : MemIs tS O w m g st v) (hk : Keeps O w w') : MemIs tS O w' m g st v :=
  ⟨h.blk.of_heap (hk.block m ((h.own m).2 (.inl rfl)) h.blk.lt), row_keep h.row fun c hc => hk.block c ((h.own c).2 (.inr hc)) (h.row.lt c hc).2, h.own, h.ne⟩
theorem MemIs.on (h : MemIs tS O w m g st v) (hb : Below w.heap.size w w') : MemIs tS O w' m g st v := h.keep (Keeps.of hb)
theorem MemIs.cells (h : MemIs tS O w m g st v) : w.cell? ⟨m, 0, none⟩ = some (.pointer (some ⟨g, 0, none⟩)) ∧ w.cell? ⟨m, 1, none⟩ = some (.int .i64 st.1.1) ∧ w.cell? ⟨m, 2, none⟩ = some (.int .i64 st.1.2) ∧ w.cell? ⟨m, 3, none⟩ = some v :=
  cells4 h.blk
theorem MemIs.lt (h : MemIs tS O w m g st v) : ∀ b, O b → b < w.heap.size := by
  intro b hb
  rcases (h.own b).1 hb with rfl | e
  · exact h.blk.lt
  · exact (h.row.lt b e).2
theorem MemIs.sl (h : MemIs tS O w m g st v) : ∃ a c, v = .slice a st.2.length c := own_sl6 h.row
theorem strs_row {e : TypeId} {w : World} {base n : Nat} {v : Value} {l : List ByteArray} (h : w.ownsRow base e 1 v n (l.map Value.string)) : StrsAt w v l := by
  have hn : n = l.length := by have := h.1; rw [List.length_map] at this; omega
  subst hn
  exact (strsin_own h).at_
end
def At10 (tS : TypeId) (O : Nat → Prop) (w : World) (m g : Nat) (st : MemT) : Prop := ∃ v, MemIs tS O w m g st v
theorem right_smallD {b : BlockD} (h : blockOk b) : SmallD b := by
  have h := right_smallB (v := b.1.1.1) (p := b.1.1.2) (cv := b.1.2.1.1) (k := b.1.2.1.2) (l := b.1.2.2) (m := b.2) h
  exact ⟨by have := h.2.2.1; show b.1.2.1.2.size ≤ 1000000; omega, h.1, h.2.1⟩
theorem recs_small {st : MemT} (h : OkT st) : (∀ r ∈ st.2.map rcB, r.size ≤ 1000000) ∧ (st.2.map rcB).length ≤ 1000 := by
  refine ⟨fun r hr => ?_, by rw [List.length_map]; exact h.2.2⟩
  obtain ⟨b, hb, rfl⟩ := List.mem_map.1 hr
  have := recs_fit (st := (0, 0)) (x := (0, 0)) (l := st.2) h.2.1 (rcB b) (by unfold recsOf; exact List.mem_append_left _ (List.mem_map.2 ⟨b, hb, rfl⟩))
  unfold fitR at this; omega
theorem ext_join (a : ByteArray) (i j : Nat) (h : i ≤ j) : a.extract 0 i ++ a.extract i j = a.extract 0 j := by
  apply ba_ext
  rw [ByteArray.data_append, Array.toList_append]
  simp only [ByteArray.data_extract, Array.toList_extract, List.extract_eq_take_drop, List.drop_zero, Nat.sub_zero]
  rw [← List.take_add]
  congr 1; omega
theorem cut_all (s : Lg) : (cutL s).safe ++ (cutL s).wait = encL (splitS (s.safe ++ s.wait)).1 := by
  rw [← (split_bytes _ (s.safe ++ s.wait) (Nat.lt_succ_self _)).1]
  exact ext_join _ _ _ (Nat.min_le_left _ _)
theorem cut_size10 (s : Lg) : sizeL (cutL s) ≤ sizeL s := by
  have h1 := congrArg ByteArray.size (cut_all s)
  have h2 := congrArg ByteArray.size (split_bytes _ (s.safe ++ s.wait) (Nat.lt_succ_self _)).1
  rw [ByteArray.size_append] at h1
  rw [ByteArray.size_extract, ByteArray.size_append] at h2
  show (cutL s).safe.size + (cutL s).wait.size ≤ s.safe.size + s.wait.size
  omega
theorem cut_recs10 {s : Lg} (h : s.gone = false) : recsL (cutL s) = recsL s := by
  have h' : (cutL s).gone = false := h
  unfold recsL
  rw [if_neg (by rw [h']; decide), if_neg (by rw [h]; decide), cut_all, split_encL _ (split_bytes _ (s.safe ++ s.wait) (Nat.lt_succ_self _)).2]
theorem recs_few {s : Lg} : ∀ r ∈ recsL s, r.size ≤ 1000000 := by
  intro r hr
  unfold recsL at hr
  split at hr
  · cases hr
  · have := (split_bytes _ (s.safe ++ s.wait) (Nat.lt_succ_self _)).2 r hr
    unfold fitR at this; omega
theorem recs_back {st : MemT} (h : OkT st) : recallL (st.2.map rcB) ((0, 0), []) = ((0, 0), st.2) := by
  rw [recall_blocks st.2 _ h.2.1]; rfl
end TT
namespace Go.Proofs.Ytnahebfhhcebpaa
open TT SS RR FF JJ CC WW BB
section
variable (O : Nat → Prop) (w : World) (m g : Nat) (st : MemT)
set_option maxRecDepth 100000 in
set_option maxHeartbeats 4000000 in
theorem state10 (h : At10 9 O w m g st) : Calls Try.prog 11 #[.pointer (some ⟨m, 0, none⟩)] w fun e w' => e = .returned (.agg #[.int .i64 st.1.1, .int .i64 st.1.2]) ∧ Below w.heap.size w w' := by
  obtain ⟨v, h⟩ := h
  have X1 := Lib.hid ((Below.refl w.heap.size w).alloc (Nat.le_refl _) (.cells #[.int .i64 0, .int .i64 0] 26))
  have Q1 := Lib.hid (show Blk (w.alloc (.cells #[.int .i64 0, .int .i64 0] 26)) w.heap.size 2 (rowL [.int .i64 0, .int .i64 0]) from Blk.new' rfl (row2_ _ _))
  have H1 := Lib.hid (h.on X1.out)
  obtain ⟨w1, hw1⟩ : ∃ w1, w.alloc (.cells #[.int .i64 0, .int .i64 0] 26) = w1 := ⟨_, rfl⟩
  have HW1 := Lib.hid hw1
  rw [hw1] at X1 Q1 H1
  clear hw1 h
  go_enter Try.func11, Try.ntmps11
  go_upto_region 1 with fail
  rw [HW1.out]
  obtain ⟨c0, c1, c2, c3⟩ := H1.out.cells
  have f0 := Q1.out.frz 0
  have f1 := Q1.out.frz 1
  obtain ⟨d0, d1⟩ := cells2 Q1.out
  go_wp2_with fail
  obtain ⟨xi, ui⟩ := rset2 Q1.out (.int .i64 st.1.1) (.int .i64 st.1.2)
  obtain ⟨p0, p1⟩ := cells2 xi
  refine bodyPost_ret (v := .agg #[.int .i64 st.1.1, .int .i64 st.1.2]) (by simp [results, Try.results11, go_sem, p0, p1]) rfl ⟨rfl, ?_⟩
  exact X1.out.trans (ui.below (Nat.le_refl _))
set_option maxRecDepth 100000 in
set_option maxHeartbeats 4000000 in
theorem blocks10 (h : At10 9 O w m g st) (hok : OkT st) : Calls Try.prog 12 #[.pointer (some ⟨m, 0, none⟩)] w fun e w' => ∃ u L, e = .returned u ∧ L.map Prod.fst = st.2 ∧ Dep (fun b => w.heap.size ≤ b) w' (fun w'' => BvAt w'' u L) ∧ Below w.heap.size w w' := by
  obtain ⟨v, h⟩ := h
  have HS := Lib.hid (strs_row h.row)
  have HR := Lib.hid (recs_small hok)
  have HB := Lib.hid (recs_back hok)
  obtain ⟨c0, c1, c2, c3⟩ := h.cells
  obtain ⟨va, vc, hv⟩ := h.sl
  have HVV := Lib.hid hv
  subst hv
  clear h hok
  go_enter Try.func12, Try.ntmps12
  go_wp2_with fail
  refine (recall_any _ _ w HS.out HR.out.1 HR.out.2).mono ?_
  rintro e w1 ⟨u, L, rfl, hL, hD, hb1⟩
  rw [HB.out]
  rw [HB.out] at hL
  have HL := Lib.hid hL
  have HD := Lib.hid hD
  have HB1 := Lib.hid hb1
  obtain ⟨ua, uc, rfl⟩ := bv_shape hD.now
  clear hL hD hb1
  go_wp2_with fail
  go_ret
  exact ⟨_, L, rfl, HL.out, HD.out.on (Keeps.of ((Below.refl _ _).alloc (Nat.le_refl _) _)), HB1.out.alloc HB1.out.size _⟩
set_option maxRecDepth 100000 in
set_option maxHeartbeats 8000000 in
theorem open10 (s : Lg) (h : At9 O w g s) (hs : sizeL s ≤ 1000000) (hn : (recsL s).length ≤ 1000) (hg : s.gone = false) :
    Calls Try.prog 8 #[.pointer (some ⟨g, 0, none⟩)] w fun e w' => ∃ m O' O1, e = .returned (.tuple #[.pointer (some ⟨m, 0, none⟩), .int .i64 0]) ∧ At9 O' w' g (cutL s) ∧ At10 9 O1 w' m g (recallL (recsL s) ((0, 0), [])) ∧
      Keeps (fun b => ¬ O b) w w' ∧ (∀ b, O' b → O b ∨ w.heap.size ≤ b) ∧ ∀ b, O1 b → w.heap.size ≤ b ∧ ¬ O' b := by
  have HCA := Lib.hid (show cutA s = (cutL s, 0) by unfold cutA; rw [if_neg (by rw [hg]; decide)])
  have HRE := Lib.hid (cut_recs10 hg)
  have HCG := Lib.hid (show (if (cutL s).gone = true then (8 : Int) else 0) = 0 from if_neg (by show ¬ s.gone = true; rw [hg]; decide))
  have HN := Lib.hid hn
  have HSZ := Lib.hid (Nat.le_trans (cut_size10 s) hs)
  have HCUT := Lib.hid (cut9 O w g s h hs)
  obtain ⟨M, hM⟩ : ∃ M, recallL (recsL s) ((0, 0), []) = M := ⟨_, rfl⟩
  rw [hM]
  have HM := Lib.hid hM
  have HMS := Lib.hid (show ∀ b ∈ M.2, blockOk b by rw [← hM]; exact (recall_ok (recsL s) ((0, 0), []) ok_none.1 (fun _ h => by cases h)).2.1)
  have HML := Lib.hid (show M.2.length ≤ 1000 by
    have := (recall_ok (recsL s) ((0, 0), []) ok_none.1 (fun _ h => by cases h)).2.2
    rw [← hM]
    have e : ([] : List BlockD).length = 0 := rfl
    have this : _ ≤ ([] : List BlockD).length + _ := this
    omega)
  clear h hs hn hg hM
  go_enter Try.func8, Try.ntmps8
  go_wp2_with fail
  refine HCUT.out.mono ?_
  rintro e w1 ⟨rfl, O', h1, hk1, ho1⟩
  rw [HCA.out] at h1 ⊢
  have H1 := Lib.hid (show At9 O' w1 g (cutL s) from h1)
  have HK1 := Lib.hid hk1
  have HO1 := Lib.hid ho1
  clear h1 hk1 ho1 HCUT
  go_wp2_with fail
  refine (records9 O' w1 g (cutL s) H1.out HSZ.out).mono ?_
  rintro e w2 ⟨v, rfl, hv, hb2⟩
  rw [HCG.out]
  rw [HRE.out] at hv
  have HV := Lib.hid hv.at_
  have B2 := Lib.hid hb2
  obtain ⟨va, vc, rfl, _⟩ := hv
  clear hb2
  go_wp2_with fail
  refine (recall_any (recsL s) _ w2 HV.out recs_few HN.out).mono ?_
  rintro e w3 ⟨u, L, rfl, hL, hD, hb3⟩
  rw [HM.out] at hL ⊢
  have HL := Lib.hid hL
  have HLL := Lib.hid (show L.length = M.2.length by rw [← hL, List.length_map])
  have HLS := Lib.hid (show ∀ y ∈ L, SmallD y.1 from fun y hy => right_smallD (HMS.out y.1 (by rw [← hL]; exact List.mem_map.2 ⟨y, hy, rfl⟩)))
  have X3 := Lib.hid (show Below w1.heap.size w1 (w3.alloc (.cells #[.int .i64 M.1.1, .int .i64 M.1.2] 26)) from (B2.out.trans (hb3.mono B2.out.size)).alloc (Nat.le_trans B2.out.size hb3.size) _)
  have Q3 := Lib.hid (show Blk (w3.alloc (.cells #[.int .i64 M.1.1, .int .i64 M.1.2] 26)) w3.heap.size 2 (rowL [.int .i64 M.1.1, .int .i64 M.1.2]) from Blk.new' rfl (row2_ _ _))
  have D3 := Lib.hid (show BvAt (w3.alloc (.cells #[.int .i64 M.1.1, .int .i64 M.1.2] 26)) u L from (hD.on (Keeps.of ((Below.refl _ _).alloc (Nat.le_refl _) _))).now)
  obtain ⟨ua, uc, hu⟩ := bv_shape hD.now
  subst hu
  clear hL hD hb3
  go_upto_region 8 with fail
  obtain ⟨q, hq⟩ : ∃ q, w3.heap.size = q := ⟨_, rfl⟩
  obtain ⟨w4, hw4⟩ : ∃ w4, w3.alloc (.cells #[.int .i64 M.1.1, .int .i64 M.1.2] 26) = w4 := ⟨_, rfl⟩
  rw [hw4] at X3 Q3 D3
  rw [hq] at Q3
  rw [hw4, hq]
  clear hw4 hq
  have HSC := Lib.hid (fun (wx : World) (hb : Below w4.heap.size w4 wx) => cells2 (Q3.out.below hb Q3.out.lt))
  refine plan_abs (fun wx => Below w4.heap.size w4 wx) [(true, 0), (true, 1), (true, 2), (false, 3), (true, 4), (false, 5), (false, 6), (false, 7)] (by kernel_rfl) (by kernel_rfl) (fun _ _ d _ _ h => by cases d <;> exact h) fun w5 hs5 => ⟨hs5.below _, ?_⟩
  have Y5 := Lib.hid (show Below w4.heap.size w4 w5 from hs5.below _)
  clear hs5
  iterate 3 (refine pl_run _ ?_ rfl rfl ?_ ?_; rotate_left; (focus (intro w' hS; obtain ⟨d0, d1⟩ := HSC.out w' hS; go_simp; exact rfl)); simp only [Act.put, List.setIfInBounds_toArray, List.set_cons_zero, List.set_cons_succ, List.getElem_toArray, List.getElem_cons_zero, List.getElem_cons_succ])
  refine pl_call (R := fun u w' => w'.ownsRow w5.heap.size 9 1 u L.length (recsV L) ∧ Below w5.heap.size w5 w') _ rfl rfl (by go_simp) ((blockrecs_any L _ w5 (D3.out.later Y5.out) HLS.out (by rw [HLL.out]; exact HML.out)).mono fun e w' ⟨u, h1, h2, h3⟩ => ⟨u, h1, h2, h3⟩) (fun u w' h => Y5.out.trans (h.2.mono Y5.out.size)) fun u w6 hr => ?_
  obtain ⟨hrow, hb6⟩ := hr
  have HROW := Lib.hid hrow
  have Y6 := Lib.hid (Y5.out.trans (hb6.mono Y5.out.size))
  have Z6 := Lib.hid hb6
  obtain ⟨ra, rc, hre⟩ := own_sl6 hrow
  subst hre
  clear hrow hb6
  simp only [Act.put, List.setIfInBounds_toArray, List.set_cons_zero, List.set_cons_succ, List.getElem_toArray, List.getElem_cons_zero, List.getElem_cons_succ]
  iterate 1 (refine pl_run _ ?_ rfl rfl ?_ ?_; rotate_left; (focus (intro w' hS; go_simp; exact rfl)); simp only [Act.put, List.setIfInBounds_toArray, List.set_cons_zero, List.set_cons_succ, List.getElem_toArray, List.getElem_cons_zero, List.getElem_cons_succ])
  have BX := Lib.hid ((Below.refl w6.heap.size w6).alloc (Nat.le_refl _) (.cells #[.pointer (some ⟨g, 0, none⟩), .int .i64 M.1.1, .int .i64 M.1.2, .slice ra L.length rc] 59))
  have QX := Lib.hid (show Blk (w6.alloc (.cells #[.pointer (some ⟨g, 0, none⟩), .int .i64 M.1.1, .int .i64 M.1.2, .slice ra L.length rc] 59)) w6.heap.size 4 (rowL [.pointer (some ⟨g, 0, none⟩), .int .i64 M.1.1, .int .i64 M.1.2, .slice ra L.length rc]) from Blk.new' rfl (row4_ _ _ _ _))
  obtain ⟨w7, hw7⟩ : ∃ w7, w6.alloc (.cells #[.pointer (some ⟨g, 0, none⟩), .int .i64 M.1.1, .int .i64 M.1.2, .slice ra L.length rc] 59) = w7 := ⟨_, rfl⟩
  refine pl_value (w' := w7) _ (.pointer (some ⟨w6.heap.size, 0, none⟩)) rfl rfl (by rw [← hw7]; go_simp) (by rw [← hw7]; exact Y6.out.trans (BX.out.mono Y6.out.size)) ?_
  rw [hw7] at BX QX
  clear hw7
  simp only [Act.put, List.setIfInBounds_toArray, List.set_cons_zero, List.set_cons_succ, List.getElem_toArray, List.getElem_cons_zero, List.getElem_cons_succ]
  have S7 := Lib.hid (Y6.out.trans (BX.out.mono Y6.out.size))
  refine pl_value (w' := w7) _ (.pointer (some ⟨w6.heap.size, 0, none⟩)) rfl rfl (by go_simp) S7.out ?_
  simp only [Act.put, List.setIfInBounds_toArray, List.set_cons_zero, List.set_cons_succ, List.getElem_toArray, List.getElem_cons_zero, List.getElem_cons_succ]
  refine pl_value (w' := w7) _ (.int .i64 0) rfl rfl (by go_simp) S7.out ?_
  simp only [Act.put, List.setIfInBounds_toArray, List.set_cons_zero, List.set_cons_succ, List.getElem_toArray, List.getElem_cons_zero, List.getElem_cons_succ]
  refine pl_end ?_
  go_wp2_with fail
  have hX7 : Below w1.heap.size w1 w7 := X3.out.trans (S7.out.mono X3.out.size)
  have hz1 : w.heap.size ≤ w1.heap.size := HK1.out.b0.size
  have hz5 : w1.heap.size ≤ w5.heap.size := Nat.le_trans X3.out.size Y5.out.size
  have hz6 := Z6.out.size
  have hrow7 := row_keep HROW.out fun c hc => BX.out.block c (HROW.out.lt c hc).2
  refine bodyPost_ret (v := .tuple #[.pointer (some ⟨w6.heap.size, 0, none⟩), .int .i64 0]) (by simp [results, Try.results8, go_sem]) rfl ?_
  refine ⟨w6.heap.size, O', fun b => b = w6.heap.size ∨ (Value.slice ra L.length rc).ownBlock = some b, rfl, at9_keep H1.out (Keeps.of hX7), ⟨_, QX.out, ?_, fun _ => Iff.rfl, fun e => by have := (HROW.out.lt _ e).2; omega⟩, HK1.out.trans (Keeps.of hX7), HO1.out, fun b hb => ?_⟩
  · rw [← HL.out, List.length_map, ← recsV_of]
    exact CC.own_base hrow7 (Nat.zero_le _)
  · have hb1 : w1.heap.size ≤ b := by
      rcases hb with rfl | e
      · omega
      · have := (HROW.out.lt b e).1; omega
    exact ⟨by omega, fun h => by have := at9_lt H1.out b h; omega⟩
end
end Go.Proofs.Ytnahebfhhcebpaa
end
section
open Go Go.RowKit
namespace TT
open SS RR FF WW BB
/-- some records are appended: s is the log, rs are left -/
structure WrSt (w : World) (O : Nat → Prop) (g : Nat) (s0 : Lg) (rs : List ByteArray) (i : Nat) (s : Lg) (wr : World) : Prop where
  at_ : ∃ O', At9 O' wr g s ∧ ∀ b, O' b → O b ∨ w.heap.size ≤ b
  keeps : Keeps (fun b => ¬ O b) w wr
  app : appL s0 rs = appL s (rs.drop i)
  size : sizeL s ≤ sizeL s0 + i * 4004
theorem size_append {s : Lg} {r : ByteArray} (h : r.size ≤ 4000) : sizeL (appendL s r).1 ≤ sizeL s + 4004 := by
  unfold appendL
  split
  · show sizeL s ≤ _; omega
  · split
    · show sizeL s ≤ _; omega
    · split
      · show s.safe.size + s.wait.size ≤ sizeL s + 4004; unfold sizeL; omega
      · obtain ⟨e1, e2, e3⟩ := burn_same s
        show (burnL s).safe.size + (s.wait ++ txt r).size ≤ sizeL s + 4004
        rw [e1, ByteArray.size_append, txt_size]
        unfold sizeL; omega
theorem app_end {s : Lg} {r : ByteArray} {l : List ByteArray} (h : (appendL s r).2 ≠ 0) : appL s (r :: l) = appendL s r := by
  show (if (appendL s r).2 = 0 then appL (appendL s r).1 l else appendL s r) = _
  rw [if_neg h]
theorem app_next {s : Lg} {r : ByteArray} {l : List ByteArray} (h : (appendL s r).2 = 0) : appL s (r :: l) = appL (appendL s r).1 l := by
  show (if (appendL s r).2 = 0 then appL (appendL s r).1 l else appendL s r) = _
  rw [if_pos h]
theorem drop_at {l : List ByteArray} {i : Nat} (h : i < l.length) : l.drop i = l.getD i ⟨#[]⟩ :: l.drop (i + 1) := by
  rw [List.drop_eq_getElem_cons h, List.getD_eq_getElem?_getD, List.getElem?_eq_getElem h]; rfl
section
variable {w wr w' : World} {O : Nat → Prop} {g : Nat} {s0 s s' : Lg} {rs : List ByteArray} {i : Nat}
theorem WrSt.next (h : WrSt w O g s0 rs i s wr) (hn : ∃ O', Next9 At9 O' wr g s' w' ∧ (∀ b, O' b → O b ∨ w.heap.size ≤ b)) : (∃ O', At9 O' w' g s' ∧ ∀ b, O' b → O b ∨ w.heap.size ≤ b) ∧ Keeps (fun b => ¬ O b) w w' := by
  obtain ⟨O', ⟨O2, h1, h2, h3⟩, h4⟩ := hn
  refine ⟨⟨O2, h1, fun b hb => (h3 b hb).elim (h4 b) fun h5 => .inr (Nat.le_trans h.keeps.b0.size h5)⟩, ⟨h.keeps.b0.trans h2.b0, fun b hb hl => (h2.block b (fun ho => (h4 b ho).elim hb fun h5 => by omega) (Nat.lt_of_lt_of_le hl h.keeps.b0.size)).trans (h.keeps.block b hb hl)⟩⟩
end
end TT
namespace Go.Proofs.Ytnahebfhhcebpaa
open TT SS RR FF JJ CC WW BB
section
variable (O O1 : Nat → Prop) (w : World) (m g : Nat) (st : MemT) (s : Lg)
set_option maxRecDepth 100000 in
set_option maxHeartbeats 8000000 in
/-- records become safe -/
theorem recwrite_any (vb : Value) (rs : List ByteArray) (v : Value) (A : Nat → Prop) (h : At9 O w g s) (hm : MemIs 9 O1 w m g st vb) (hmO : ¬ O m) (hv : StrsIn A w v rs) (hA : ∀ b, A b → ¬ O b) (hr : ∀ r ∈ rs, r.size ≤ 4000) (hl : rs.length ≤ 20) (hz : sizeL s ≤ 900000) :
    Calls Try.prog 26 #[.pointer (some ⟨m, 0, none⟩), v] w fun e w' => e = .returned (.int .i64 (putL s rs).2) ∧ Next9 At9 O w g (putL s rs).1 w' := by
  have HM := Lib.hid hm
  have HMO := Lib.hid hmO
  have HV := Lib.hid hv
  have HA := Lib.hid hA
  have HR := Lib.hid hr
  have HL := Lib.hid hl
  have HZ := Lib.hid hz
  have K0 := Lib.hid (show WrSt w O g s rs 0 s w from ⟨⟨O, h, fun b hb => .inl hb⟩, Keeps.refl _ _, rfl, by omega⟩)
  obtain ⟨a0, cap, rfl, _⟩ := hv
  obtain ⟨P, hP⟩ : ∃ P, putL s rs = P := ⟨_, rfl⟩
  rw [hP]
  have HP := Lib.hid hP
  obtain ⟨c0, c1, c2, c3⟩ := hm.cells
  clear hm hmO hA hr hl hz hP c1 c2 c3
  by_cases h0 : rs = []
  · have HE := Lib.hid (show P = (s, 0) by rw [← HP.out]; unfold putL; rw [if_pos h0])
    have t0 : (rs.length : Int) = 0 := by rw [h0]; rfl
    have HH := Lib.hid h
    clear h h0
    go_enter Try.func26, Try.ntmps26
    go_wp2_with fail
    go_ret
    rw [HE.out]
    exact ⟨rfl, O, HH.out, Keeps.refl _ _, fun b hb => .inl hb⟩
  · have HP := Lib.hid (show P = (if (appL s rs).2 = 0 then syncL (appL s rs).1 else appL s rs) by rw [← HP.out]; unfold putL; rw [if_neg h0])
    have t0 : ((rs.length : Int) == 0) = false := by
      have : 0 < rs.length := List.length_pos_iff.2 h0
      rw [beq_eq_false_iff_ne]; omega
    clear h h0
    go_enter Try.func26, Try.ntmps26
    go_wp2_with fail
    go_loopw [22] (fun y wr => ∃ (i : Nat) (s' : Lg), i ≤ rs.length ∧ y = .int .i64 (i : Int) ∧ WrSt w O g s rs i s' wr) (fun y _ => rs.length - (intOf y).toNat)
    case atStart => exact ⟨0, s, Nat.zero_le _, rfl, K0.out⟩
    case round =>
      obtain ⟨i, s', hi, rfl, hst⟩ := hrel
      have HST := Lib.hid hst
      have i0' : (0 : Int) ≤ (i : Int) := by omega
      have ib : (i : Int) ≤ 20 := by have := HL.out; omega
      have c0 := (World.cell?_of_block (a := ⟨m, 0, none⟩) (hst.keeps.block m HMO.out HM.out.blk.lt)).trans HM.out.cells.1
      clear hst
      by_cases h1 : i < rs.length
      · have h1' : (i : Int) < (rs.length : Int) := by omega
        have HLT := Lib.hid h1
        obtain ⟨tb, toff, rfl, hbA, hbw, hcell⟩ : ∃ b off, a0 = some ⟨b, off, none⟩ ∧ A b ∧ b < w.heap.size ∧ ∀ i, i < rs.length → w.cell? ⟨b, off + i, none⟩ = some (.string (rs.getD i ⟨#[]⟩)) := by
          obtain ⟨a1, c1, he, _, h | ⟨b, off, h2, h3, h4, h5⟩⟩ := HV.out
          · rw [h] at h1; simp at h1
          · injection he with e1 _ _
            exact ⟨b, off, e1.trans h2, h3, h4, h5⟩
        have k1 := (World.cell?_of_block (a := ⟨tb, toff + i, none⟩) (HST.out.keeps.block tb (HA.out tb hbA) hbw)).trans (hcell i h1)
        obtain ⟨r, hr⟩ : ∃ r, rs.getD i ⟨#[]⟩ = r := ⟨_, rfl⟩
        have HDR := Lib.hid (show rs.drop i = r :: rs.drop (i + 1) by rw [← hr]; exact drop_at h1)
        have HRS := Lib.hid (show r.size ≤ 4000 from HR.out r (by rw [← hr, List.getD_eq_getElem?_getD, List.getElem?_eq_getElem h1]; exact List.getElem_mem h1))
        rw [hr] at k1
        clear h1 hi hbw hcell hr hbA
        obtain ⟨O', hO', hO2⟩ := HST.out.at_
        have HO2 := Lib.hid hO2
        have HAP := Lib.hid (append9 O' wr g s' r hO' (by have := HST.out.size; have := HZ.out; omega) (by have := HRS.out; omega))
        clear hO' hO2
        go_wp2_with fail
        refine HAP.out.mono ?_
        rintro e w2 ⟨rfl, hn⟩
        have hn : Next9 At9 O' wr g (appendL s' r).1 w2 := hn
        obtain ⟨k2, k3⟩ := HST.out.next ⟨O', hn, HO2.out⟩
        have K2 := Lib.hid k2
        have K3 := Lib.hid k3
        have HRES := Lib.hid (show (doL s' 0 r 0).2 = (appendL s' r).2 from rfl)
        rw [HRES.out]
        clear hn k2 k3 k1 c0 HAP
        by_cases he : (appendL s' r).2 = 0
        · have HE := Lib.hid he
          rw [he]
          clear he
          go_wp2_with fail
          go_roundw
          case rel => exact ⟨i + 1, (appendL s' r).1, by have := HLT.out; omega, by go_num, K2.out, K3.out, by rw [HST.out.app, HDR.out, app_next HE.out], by have := size_append (s := s') HRS.out; have := HST.out.size; omega⟩
          case measure => have := HLT.out; simp [intOf]; omega
        · have HE := Lib.hid (show P = appendL s' r by rw [HP.out, HST.out.app, HDR.out, app_end he, if_neg he])
          obtain ⟨E, hE⟩ : ∃ E, (appendL s' r).2 = E := ⟨_, rfl⟩
          rw [hE]
          rw [hE] at he
          have HEE := Lib.hid hE
          have t1 : (E == 0) = false := by simpa using he
          clear hE
          go_wp2_with fail
          go_ret
          obtain ⟨O2, h2, h3⟩ := K2.out
          rw [HE.out, HEE.out]
          exact ⟨rfl, O2, h2, K3.out, h3⟩
      · obtain rfl : i = rs.length := by omega
        have h1' : ¬ ((rs.length : Nat) : Int) < ((rs.length : Nat) : Int) := by omega
        have HAP := Lib.hid (show appL s rs = (s', 0) by rw [HST.out.app, List.drop_length]; rfl)
        have HE := Lib.hid (show P = syncL s' by rw [HP.out, HAP.out]; rfl)
        clear h1 hi
        obtain ⟨O', hO', hO2⟩ := HST.out.at_
        have HO2 := Lib.hid hO2
        have HSY := Lib.hid (sync9 O' wr g s' hO')
        clear hO' hO2
        go_wp2_with fail
        refine HSY.out.mono ?_
        rintro e w2 ⟨rfl, hn⟩
        have hn : Next9 At9 O' wr g (syncL s').1 w2 := hn
        obtain ⟨k2, k3⟩ := HST.out.next ⟨O', hn, HO2.out⟩
        have K2 := Lib.hid k2
        have K3 := Lib.hid k3
        clear hn k2 k3 c0 HSY
        go_wp2_with fail
        go_ret
        obtain ⟨O2, h2, h3⟩ := K2.out
        rw [HE.out]
        exact ⟨rfl, O2, h2, K3.out, h3⟩
end
end Go.Proofs.Ytnahebfhhcebpaa
end
section
open Go Go.RowKit
namespace Go.Proofs.Ytnahebfhhcebpaa
open TT SS RR FF JJ CC MM WW BB
set_option maxRecDepth 100000 in
set_option maxHeartbeats 4000000 in
theorem uifun_any (O : List Bv) (v : Value) (kv : Nat) (ev : Array Value) (p : Bv → Bool) (w : World) (hv : BvAt w v O) (hl : O.length ≤ 1000)
    (hp : ∀ i (_ : i < O.length) (wr : World), Below w.heap.size w wr → CallsV Try.prog (.func (.func kv) #[] ev) #[bvV (O.getD i vb0)] wr fun e w' => e = .returned (.bool (p (O.getD i vb0))) ∧ Below wr.heap.size wr w') :
    Calls Try.prog 52 #[v, .func (.func kv) #[] ev] w fun e w' => e = .returned (.int .i64 (idxI O p)) ∧ Below w.heap.size w w' := by
  have HV := Lib.hid hv
  have HL := Lib.hid hl
  have HP := Lib.hid hp
  obtain ⟨a0, cap, rfl⟩ := bv_shape hv
  obtain ⟨X, hX⟩ : ∃ X, idxI O p = X := ⟨_, rfl⟩
  have HTX := Lib.hid hX
  rw [hX]
  clear hl hv hX hp
  go_enter Try.func52, Try.ntmps52
  go_wp2_with fail
  go_loopw [8] (fun y wr => ∃ i : Nat, i ≤ O.length ∧ y = .int .i64 (i : Int) ∧ (∀ j, j < i → p (O.getD j vb0) = false) ∧ Below w.heap.size w wr) (fun y _ => O.length - (intOf y).toNat)
  case atStart => exact ⟨0, Nat.zero_le _, rfl, fun j hj => absurd hj (Nat.not_lt_zero _), Below.refl _ _⟩
  case round =>
    obtain ⟨i, hi, rfl, hall, hbr⟩ := hrel
    have HALL := Lib.hid hall
    have HBR := Lib.hid hbr
    have i0 : (0 : Int) ≤ (i : Int) := by omega
    have ib : (i : Int) ≤ 1000 := by have := HL.out; omega
    clear hall
    by_cases hlt : i < O.length
    · have hlt' : (i : Int) < (O.length : Int) := by omega
      have HLT := Lib.hid hlt
      obtain ⟨qb, qoff, rfl, _, _, hq⟩ := bv_at HV.out i hlt
      obtain ⟨c0, c1, c2, c3, c4, c5, hin⟩ := hq wr hbr i hlt
      obtain ⟨y, hy⟩ : ∃ y, O.getD i vb0 = y := ⟨_, rfl⟩
      have HY := Lib.hid hy
      have HQ := Lib.hid (HP.out i hlt)
      rw [hy] at c0 c1 c2 c3 c4 c5 HQ hin
      obtain ⟨bd, s5, s6⟩ := y
      obtain ⟨e5, n5, h5⟩ := sl_of_sigs hin.1
      obtain ⟨e6, n6, h6⟩ := sl_of_reqs hin.2
      replace h5 : s5 = .slice e5 (sigsI bd).length n5 := h5
      replace h6 : s6 = .slice e6 bd.2.length n6 := h6
      subst h5 h6
      clear hi hlt hy hbr hq hin
      go_wp2_with (with_reducible refine hold_callv rfl rfl ?_)
      refine wpl_callv (v := .func (.func kv) #[] ev) (args := #[bvV (bd, .slice e5 (sigsI bd).length n5, .slice e6 bd.2.length n6)]) _ rfl rfl rfl (by simp [Act.eval]; rfl) (HQ.out wr HBR.out) (fun e w' h => ⟨_, h.1⟩) ?_
      rintro u w3 ⟨hu, hb3⟩
      injection hu with hu
      subst hu
      have HB3 := Lib.hid (HBR.out.trans (hb3.mono HBR.out.size))
      clear hb3 HQ
      rcases hpp : p (bd, .slice e5 (sigsI bd).length n5, .slice e6 bd.2.length n6) with _ | _
      · have HPP := Lib.hid hpp
        clear hpp
        go_wp2_with fail
        go_roundw
        case rel => exact ⟨i + 1, by have := HLT.out; omega, by go_num, fun j hj => if h : j = i then by subst h; rw [HY.out]; exact HPP.out else HALL.out j (by omega), HB3.out⟩
        case measure => have := HLT.out; simp [intOf]; omega
      · have HPP := Lib.hid hpp
        clear hpp
        go_wp2_with fail
        go_ret
        refine ⟨?_, HB3.out⟩
        rw [← HTX.out, idx_hit i HLT.out (fun j hj => by rw [← getD_at (d := vb0)]; exact HALL.out j hj) (by rw [← getD_at (d := vb0) HLT.out, HY.out]; exact HPP.out)]
        rfl
    · obtain rfl : i = O.length := by omega
      have hlt' : ¬ (O.length : Int) < (O.length : Int) := by omega
      clear hi hlt
      go_wp2_with fail
      go_ret
      refine ⟨?_, HBR.out⟩
      rw [← HTX.out, idx_none (fun j hj => by rw [← getD_at (d := vb0)]; exact HALL.out j hj)]
      rfl
set_option maxRecDepth 100000 in
set_option maxHeartbeats 4000000 in
theorem ucfun_any (O : List Bv) (v : Value) (kv : Nat) (ev : Array Value) (p : Bv → Bool) (b : Bool) (hb : O.any p = b) (w : World) (hv : BvAt w v O) (hl : O.length ≤ 1000)
    (hp : ∀ i (_ : i < O.length) (wr : World), Below w.heap.size w wr → CallsV Try.prog (.func (.func kv) #[] ev) #[bvV (O.getD i vb0)] wr fun e w' => e = .returned (.bool (p (O.getD i vb0))) ∧ Below wr.heap.size wr w') :
    Calls Try.prog 37 #[v, .func (.func kv) #[] ev] w fun e w' => e = .returned (.bool b) ∧ Below w.heap.size w w' := by
  have HV := Lib.hid hv
  have HL := Lib.hid hl
  have HP := Lib.hid hp
  have HB := Lib.hid hb
  obtain ⟨a0, cap, rfl⟩ := bv_shape hv
  clear hl hb hp hv
  go_enter Try.func37, Try.ntmps37
  go_wp2_with fail
  refine (uifun_any O _ kv ev p w HV.out HL.out HP.out).mono ?_
  rintro e w2 ⟨rfl, hb2⟩
  go_wp2_with fail
  go_ret
  refine ⟨?_, hb2⟩
  rw [← HB.out, ← idx_any]; rfl
theorem own_allright : WW.Own Try.prog 38 := ⟨_, Try.func38, by kernel_rfl, by kernel_rfl⟩
set_option maxRecDepth 100000 in
set_option maxHeartbeats 4000000 in
/-- what tells of one block that it isn't right -/
theorem allright1_any (y : Bv) (w : World) (hi : InnB w y) (hs : SmallT y.1) :
    Calls Try.prog 38 #[bvV y] w fun e w' => e = .returned (.bool (!decide (blockOk y.1))) ∧ Below w.heap.size w w' := by
  obtain ⟨⟨⟨⟨v, p⟩, ⟨⟨cv, k⟩, l⟩⟩, m⟩, sv, rv⟩ := y
  obtain ⟨h1, h2⟩ := hi
  replace h1 : SigsAt w sv l := h1
  replace h2 : ReqsAt w rv m := h2
  replace hs : SmallB k l m := hs
  have HC := Lib.hid (fun wx (hb : Below w.heap.size w wx) => uright_any v p cv k sv rv l m wx (h1.later hb) (h2.later hb) hs.1 hs.2.1 hs.2.2.1 hs.block)
  obtain ⟨X, hX⟩ : ∃ X, rightBlock v p cv k l m = X := ⟨_, rfl⟩
  rw [hX] at HC
  have HX := Lib.hid (show (!decide (blockOk ((((v, p), ((cv, k), l)), m), sv, rv).1)) = !X by rw [← hX]; show (!decide (rightBlock v p cv k l m = true)) = _; simp)
  rw [HX.out]
  obtain ⟨a0, cap, rfl, _⟩ := h1
  obtain ⟨a1, cap1, rfl, _⟩ := h2
  have X1 := Lib.hid ((Below.refl w.heap.size w).alloc (Nat.le_refl _) (.cells #[.int .i64 v, .int .i64 p, .int .i64 cv, .string k, .slice a0 l.length cap, .slice a1 m.length cap1] 51))
  show Calls Try.prog 38 #[.agg #[.int .i64 v, .int .i64 p, .int .i64 cv, .string k, .slice a0 l.length cap, .slice a1 m.length cap1]] w fun e w' => e = .returned (.bool (!X)) ∧ Below w.heap.size w w'
  clear hX hs
  go_enter Try.func38, Try.ntmps38
  go_wp2_with fail
  refine (HC.out _ X1.out).mono ?_
  rintro e w2 ⟨rfl, hb2⟩
  go_wp2_with fail
  go_ret
  exact ⟨rfl, X1.out.trans (hb2.mono X1.out.size)⟩
set_option maxRecDepth 100000 in
set_option maxHeartbeats 4000000 in
/-- are all blocks right? -/
theorem allright_any (L : List Bv) (v : Value) (w : World) (hv : BvAt w v L) (hl : L.length ≤ 1000) (hs : ∀ y ∈ L, SmallT y.1) (X : Bool) (hX : decide (∀ y ∈ L, blockOk y.1) = X) :
    Calls Try.prog 23 #[v] w fun e w' => e = .returned (.bool X) ∧ Below w.heap.size w w' := by
  have HV := Lib.hid hv
  have HL := Lib.hid hl
  have HS := Lib.hid hs
  have HX := Lib.hid (show L.any (fun y => !decide (blockOk y.1)) = !X by
    rw [← hX, Bool.eq_iff_iff]
    simp)
  obtain ⟨a0, cap, rfl⟩ := bv_shape hv
  clear hv hl hs hX
  go_enter Try.func23, Try.ntmps23
  go_wp2_with fail
  refine (ucfun_any L _ 38 #[] (fun y => !decide (blockOk y.1)) (!X) HX.out w HV.out HL.out (fun i hi wr hbr => ?_)).mono ?_
  · obtain ⟨qb, qoff, _, _, _, hq⟩ := bv_at HV.out i hi
    obtain ⟨_, _, _, _, _, _, hin⟩ := hq wr hbr i hi
    exact ⟨_, _, rfl, own_allright, allright1_any _ wr hin (HS.out _ (by rw [getD_at hi]; exact List.getElem_mem hi))⟩
  · rintro e w2 ⟨rfl, hb2⟩
    go_wp2_with fail
    go_ret
    exact ⟨by simp, hb2⟩
end Go.Proofs.Ytnahebfhhcebpaa
end
section
open Go Go.RowKit
namespace TT
open SS RR FF WW BB
/-- an append whose run is known -/
theorem wpl_append_run {P : Program} {w w' : World} {ops : Array Oper} {rest : List Oper} {o : Oper} {a : Act} {Q : Exit → Act → World → Prop} {v' : Value} (hgd : o.guard = none) (s x : Operand) (t : TypeId)
    (ho : o.op = .call { callee := .builtin .append, args := #[s, x], argTypes := #[t, t] }) (hr : (Builtin.append_ #[t, t] o.type #[a.eval s, a.eval x]).run P w = .ok v' w') (h : wpList P ops Q rest (a.put o.dst v') w') : wpList P ops Q (o :: rest) a w := by
  refine wpList_plain hgd fun K hK => ?_
  unfold Oper.wp execOp
  simp only [ho, resolve, invoke, builtin, Sem.run_bind, Sem.run_pure, Result.andThen_ok, List.map_toArray, List.map_cons, List.map_nil, hr]
  exact hK _ _ h
/-- a row of strings is appended to a row of the call's own -/
theorem app_rows {P : Program} {w : World} (t e : TypeId) (i : TypeInfo) (z : Value) (ht : P.underlying t = some (.slice e)) (hi : P.info? e = some i) (hz : i.zero = some z) (hsize : i.size = 1) (hby : i.bytes = 16) (hzs : z.cells.size = 1)
    {v u : Value} {n j B : Nat} {xs news : List Value} (hv : w.ownsRow 0 e 1 v n xs) (hu : w.ownsRow B e 1 u j news) (h1 : ∀ y ∈ news, y.oneCell' = true) (hl : n + j ≤ 10000) :
    ∃ v' w', (Builtin.append_ #[t, t] t #[v, u]).run P w = .ok v' w' ∧ w'.ownsRow 0 e 1 v' (n + j) (xs ++ news) ∧ w.grownBy w' v.ownBlock ∧ ∀ c, v'.ownBlock = some c → v.ownBlock = some c ∨ w.heap.size ≤ c := by
  rcases hu.2 with ⟨rfl, rfl⟩ | ⟨g, cap, cur, rfl, _⟩
  · have hn : news = [] := List.eq_nil_of_length_eq_zero (by simpa using hu.1)
    subst hn
    exact ⟨v, w, run_append_none_any (P := P) (w := w) 0 t t e i 1 ht hi v n xs hv 0, by simpa using hv, ⟨rfl, rfl, rfl, Nat.le_refl _, fun _ _ _ => rfl⟩, fun c hc => Or.inl hc⟩
  · obtain ⟨v', w', hr, ho, hg, _, hloc⟩ := run_append_own_at (P := P) (w := w) 0 t t e i z 1 16 ht hi hz hsize hby hzs (by decide) v n xs hv ⟨g, 0, none⟩ j cap news (by have := hu.1; omega) (hu.cells (g := g) rfl) h1 (by unfold maxLen; omega) (by omega) (Nat.zero_le _)
    exact ⟨v', w', hr, ho, hg, fun c hc => hloc.elim (fun h => Or.inl (h ▸ hc)) fun h => by rw [h] at hc; injection hc with hc; exact Or.inr (by omega)⟩
/-- a memory with other cells -/
theorem MemIs.put {tS : TypeId} {O : Nat → Prop} {w w1 : World} {m g : Nat} {st st' : MemT} {v v' : Value} (h : MemIs tS O w m g st v) (hB : Blk w1 m 4 (rowL [.pointer (some ⟨g, 0, none⟩), .int .i64 st'.1.1, .int .i64 st'.1.2, v'])) (hr : w1.ownsRow 0 tS 1 v' st'.2.length ((st'.2.map rcB).map Value.string))
    (hlo : ∀ c, v'.ownBlock = some c → v.ownBlock = some c ∨ w.heap.size ≤ c) : MemIs tS (fun b => b = m ∨ v'.ownBlock = some b) w1 m g st' v' :=
  ⟨hB, hr, fun _ => Iff.rfl, fun e => (hlo m e).elim h.ne fun h2 => by have := h.blk.lt; omega⟩
theorem recsOf_len {st x : StT} {l : List BlockD} : (recsOf st x l).length ≤ l.length + 1 := by
  unfold recsOf
  rw [List.length_append, List.length_map]
  split
  · exact Nat.le_succ _
  · exact Nat.le_refl _
end TT
namespace Go.Proofs.Ytnahebfhhcebpaa
open TT SS RR FF JJ CC WW BB
set_option maxRecDepth 100000 in
set_option maxHeartbeats 4000000 in
theorem tsclone_row (l : List ByteArray) (v : Value) (w : World) (h : StrsAt w v l) (hs : l.length ≤ 1000) :
    Calls Try.prog 24 #[v] w fun e w' => ∃ v', e = .returned v' ∧ w'.ownsRow w.heap.size 9 1 v' l.length (l.map Value.string) ∧ Below w.heap.size w w' := by
  have HS := Lib.hid hs
  obtain ⟨a0, cap, rfl, hx⟩ := h
  have q22 : ∀ (w : World) (a : Option Addr) (n c n' c' : Nat), (binOp .eql 22 (.slice a n c) (.slice none n' c')).run Try.prog w = .ok (.bool a.isNone) w := fun w a n c n' c' => Lib.run_eql_slice_nil w _ 9 a n c n' c' (by kernel_rfl)
  obtain ⟨i0, hi, hz0, hz1, hz2⟩ : ∃ i, Try.prog.info? 9 = some i ∧ i.zero = some (.string ⟨#[]⟩) ∧ i.size = 1 ∧ i.bytes = 16 := by
    have h : (Try.prog.info? 9).map (fun i => (i.zero, i.size, i.bytes)) = some (some (.string ⟨#[]⟩), 1, 16) := by kernel_rfl
    rcases hi : Try.prog.info? 9 with _ | i
    · rw [hi] at h; cases h
    · rw [hi] at h
      simp only [Option.map_some, Option.some.injEq, Prod.mk.injEq] at h
      exact ⟨i, rfl, h.1, h.2.1, h.2.2⟩
  have HI := Lib.hid hi
  have HZ := Lib.hid (And.intro hz0 (And.intro hz1 hz2))
  have HX := Lib.hid hx
  clear hs hx hi hz0 hz1 hz2
  rcases a0 with _ | ad
  · have hL : l = [] := by
      rcases HX.out with h | ⟨b, o, h, _⟩
      · exact h
      · cases h
    subst hL
    go_enter Try.func24, Try.ntmps24
    go_wp2_with fail
    go_ret
    exact ⟨_, rfl, World.ownsRow_nil _ _ _ _, Below.refl _ _⟩
  · have hread : ∀ j u, (l.map Value.string)[j]? = some u → w.cell? (ad.add j) = some u := fun j u hj => by
      rcases HX.out with h | ⟨b, o, h, hb, hc⟩
      · subst h; simp at hj
      · injection h with h
        subst h
        have hlt : j < l.length := by have := (List.getElem?_eq_some_iff.1 hj).1; simpa using this
        have e : (⟨b, o, none⟩ : Addr).add j = ⟨b, o + j, none⟩ := by unfold Addr.add; split <;> simp [*]
        rw [e, hc j hlt, ← hj]
        simp [List.getD, List.getElem?_eq_getElem hlt]
    have HR := Lib.hid hread
    clear hread
    go_enter Try.func24, Try.ntmps24
    go_wp2_with (at_builtin; refine wpList_append_own _ rfl _ _ 22 rfl w.heap.size 9 i0 (.string ⟨#[]⟩) 1 16 (by kernel_rfl) HI.out HZ.out.1 HZ.out.2.1 HZ.out.2.2 rfl (by decide) _ _ _ rfl (World.ownsRow_made w #[] 0 (Nat.le_refl _) (Nat.zero_le _) rfl) ad l.length cap (l.map Value.string) rfl ?qc1 ?qc2 ?qc3 ?qc4 ?qc5 ?qc6 ?_)
    case qc1 => simp
    case qc2 => intro j u hj; exact Lib.cell?_alloc_some _ (HR.out j u hj)
    case qc3 => intro u hu; obtain ⟨x, _, rfl⟩ := List.mem_map.1 hu; rfl
    case qc4 => have := HS.out; unfold maxLen; omega
    case qc5 => have := HS.out; omega
    case qc6 => simp
    intro v' w1 hown hgrow hnil
    have hown : w1.ownsRow w.heap.size 9 1 v' l.length (l.map Value.string) := by simpa using hown
    have hG := Lib.hid (((Below.refl _ w).alloc (Nat.le_refl _) _).grown hgrow (by simp) (by intro k hk; simp [Value.ownBlock] at hk; omega))
    obtain ⟨va, vc, rfl⟩ := own_sl6 hown
    have HO := Lib.hid hown
    clear hown hgrow hnil
    go_wp2_with fail
    go_ret
    exact ⟨_, rfl, HO.out, hG.out⟩
section
variable (O O1 A : Nat → Prop) (w : World) (m g : Nat) (st : MemT) (s : Lg) (x : StT) (v : Value) (L : List Bv)
set_option maxRecDepth 100000 in
set_option maxHeartbeats 16000000 in
theorem save10 (h : At9 O w g s) (hm : At10 9 O1 w m g st) (hd : ∀ b, O1 b → ¬ O b) (hz : sizeL s ≤ 900000) (hok : OkT st) (hv : Dep A w (fun w' => BvAt w' v L)) (hs : ∀ y ∈ L, SmallT y.1 ∧ MemI y.1) (hl : L.length ≤ 5) :
    Calls Try.prog 14 #[.pointer (some ⟨m, 0, none⟩), .agg #[.int .i64 x.1, .int .i64 x.2], v] w (SaveAns (At10 9) O O1 w m g st s x (L.map Prod.fst)) := by
  obtain ⟨vb, hm⟩ := hm
  obtain ⟨x1, x2⟩ := x
  obtain ⟨⟨s1, s2⟩, bl⟩ := st
  have HO := Lib.hid h
  have HM := Lib.hid hm
  have HD := Lib.hid hd
  have HZ := Lib.hid hz
  have HV := Lib.hid hv.now
  have HS := Lib.hid (fun y hy => (hs y hy).1)
  have HL := Lib.hid hl
  have HSL := Lib.hid hok.2.2
  obtain ⟨a0, cap, rfl⟩ := bv_shape hv.now
  clear h hm hd hz hv hs hl hok
  obtain ⟨n, hn⟩ : ∃ n, w.heap.size = n := ⟨_, rfl⟩
  have HN := Lib.hid hn
  have X1 := Lib.hid ((Below.refl w.heap.size w).alloc (Nat.le_refl _) (.cells #[.int .i64 x1, .int .i64 x2] 26))
  have Q1 := Lib.hid (show Blk (w.alloc (.cells #[.int .i64 x1, .int .i64 x2] 26)) n 2 (rowL [.int .i64 x1, .int .i64 x2]) by rw [← hn]; exact Blk.new' rfl (row2_ _ _))
  obtain ⟨w1, hw1⟩ : ∃ w1, w.alloc (.cells #[.int .i64 x1, .int .i64 x2] 26) = w1 := ⟨_, rfl⟩
  have HW1 := Lib.hid hw1
  rw [hw1] at X1 Q1
  clear hw1 hn
  obtain ⟨R, hR⟩ : ∃ R, decide (rightS (x1, x2)) = R := ⟨_, rfl⟩
  obtain ⟨B, hB⟩ : ∃ B, decide (∀ y ∈ L, blockOk y.1) = B := ⟨_, rfl⟩
  have HR := Lib.hid hR
  have HBX := Lib.hid hB
  clear hR hB
  have HNO := Lib.hid (show (R = false ∨ B = false) → ∀ e w', e = Ending.returned (.int .i64 2) → Below w.heap.size w w' → SaveAns (At10 9) O O1 w m g ((s1, s2), bl) s (x1, x2) (L.map Prod.fst) e w' from fun hno e w' he hb => by
    unfold SaveAns
    rw [if_neg]
    · exact ⟨he, hb⟩
    · rintro ⟨k1, k2⟩
      rcases hno with h | h
      · rw [← HR.out] at h; exact absurd k1 (of_decide_eq_false h)
      · rw [← HBX.out] at h; exact absurd (fun y hy => k2 y.1 (List.mem_map.2 ⟨y, hy, rfl⟩)) (of_decide_eq_false h))
  go_enter Try.func14, Try.ntmps14
  go_upto_region 1 with fail
  rw [HW1.out, HN.out]
  obtain ⟨q0, q1⟩ := cells2 Q1.out
  go_wp2_with fail
  refine (readable_any x1 x2 w1).mono ?_
  rintro e w2 ⟨rfl, hb2⟩
  rw [HR.out]
  have X2 := Lib.hid (X1.out.trans (hb2.mono X1.out.size))
  have Q2 := Lib.hid (Q1.out.below hb2 Q1.out.lt)
  clear hb2 q0 q1
  cases R with
  | false =>
    go_wp2_with fail
    go_ret
    exact HNO.out (Or.inl (by simp)) _ _ rfl X2.out
  | true =>
  go_wp2_with fail
  refine (allright_any L _ w2 (HV.out.later X2.out) (by have := HL.out; omega) HS.out B HBX.out).mono ?_
  rintro e w3 ⟨rfl, hb3⟩
  have X3 := Lib.hid (X2.out.trans (hb3.mono X2.out.size))
  have Q3 := Lib.hid (Q2.out.below hb3 Q2.out.lt)
  clear hb3
  cases B with
  | false =>
    go_wp2_with fail
    go_ret
    exact HNO.out (Or.inr (by simp)) _ _ rfl X3.out
  | true =>
  have HOKB := Lib.hid (show rightS (x1, x2) ∧ ∀ b ∈ L.map Prod.fst, blockOk b from ⟨of_decide_eq_true HR.out, fun b hb => by
    obtain ⟨y, hy, rfl⟩ := List.mem_map.1 hb
    exact of_decide_eq_true HBX.out y hy⟩)
  have HYES := Lib.hid (show ∀ e w', e = .returned (.int .i64 (putL s (recsOf (s1, s2) (x1, x2) (L.map Prod.fst))).2) →
      (if (putL s (recsOf (s1, s2) (x1, x2) (L.map Prod.fst))).2 = 0 then NextT (At10 9) O O1 w m g (upS (s1, s2) (x1, x2), bl ++ L.map Prod.fst) (putL s (recsOf (s1, s2) (x1, x2) (L.map Prod.fst))).1 w' else LostT O O1 w g (putL s (recsOf (s1, s2) (x1, x2) (L.map Prod.fst))).1 w') →
      SaveAns (At10 9) O O1 w m g ((s1, s2), bl) s (x1, x2) (L.map Prod.fst) e w' from fun e w' h1 h2 => by
    unfold SaveAns
    rw [if_pos HOKB.out]
    exact ⟨h1, h2⟩)
  have HFIT := Lib.hid (show ∀ r ∈ recsOf (s1, s2) (x1, x2) (L.map Prod.fst), r.size ≤ 4000 from fun r hr => by
    have := recs_fit (st := (s1, s2)) (x := (x1, x2)) HOKB.out.2 r hr
    unfold fitR at this; omega)
  have HLEN := Lib.hid (show (recsOf (s1, s2) (x1, x2) (L.map Prod.fst)).length ≤ 20 by
    have := recsOf_len (st := (s1, s2)) (x := (x1, x2)) (l := L.map Prod.fst)
    rw [List.length_map] at this
    have := HL.out; omega)
  obtain ⟨rs, hrs⟩ : ∃ rs, recsOf (s1, s2) (x1, x2) (L.map Prod.fst) = rs := ⟨_, rfl⟩
  rw [hrs] at HYES HFIT HLEN
  have HRS := Lib.hid (show (L.map Prod.fst).map rcB ++ (if (x1, x2) = (s1, s2) then [] else [rcS (x1, x2)]) = rs from hrs)
  clear hrs HNO
  go_wp2_with fail
  refine (blockrecs_any L _ w3 (HV.out.later X3.out) (fun y hy => (HS.out y hy).d) (by have := HL.out; omega)).mono ?_
  rintro e w4 ⟨u, rfl, hu, hb4⟩
  rw [recsV_of] at hu
  have HU := Lib.hid hu
  have X4 := Lib.hid (X3.out.trans (hb4.mono X3.out.size))
  have Q4 := Lib.hid (Q3.out.below hb4 Q3.out.lt)
  obtain ⟨ua, uc, rfl⟩ := own_sl6 hu
  have HSA := Lib.hid (strs_row hu)
  clear hu hb4
  go_wp2_with fail
  refine (tsclone_row ((L.map Prod.fst).map rcB) _ w4 HSA.out (by rw [List.length_map, List.length_map]; have := HL.out; omega)).mono ?_
  rintro e w5 ⟨u2, rfl, hu2, hb5⟩
  have HU2 := Lib.hid (show w5.ownsRow w4.heap.size 9 1 u2 L.length (((L.map Prod.fst).map rcB).map Value.string) by
    have e : ((L.map Prod.fst).map rcB).length = L.length := by rw [List.length_map, List.length_map]
    rw [e] at hu2; exact hu2)
  have B5 := Lib.hid hb5
  have X5 := Lib.hid (X4.out.trans (hb5.mono X4.out.size))
  have Q5 := Lib.hid (Q4.out.below hb5 Q4.out.lt)
  have HM5 := Lib.hid (HM.out.on X5.out)
  obtain ⟨u2a, u2c, hu2s⟩ := own_sl6 HU2.out
  subst hu2s
  clear hu2 hb5
  go_upto_region 5 with fail
  have HSC := Lib.hid (fun (wx : World) (hb : Below w5.heap.size w5 wx) => And.intro (cells2 (Q5.out.below hb Q5.out.lt)) (HM5.out.on hb).cells)
  refine plan_abs (fun wx => Below w5.heap.size w5 wx) [(true, 0), (true, 1), (true, 2), (true, 3), (true, 4), (true, 5)] (by kernel_rfl) (by kernel_rfl) (fun _ _ d _ _ h => by cases d <;> exact h) fun w6 hs6 => ⟨hs6.below _, ?_⟩
  have Y6 := Lib.hid (show Below w5.heap.size w5 w6 from hs6.below _)
  clear hs6
  iterate 5 (refine pl_run _ ?_ rfl rfl ?_ ?_; rotate_left; (focus (intro w' hS; obtain ⟨⟨d0, d1⟩, c0, c1, c2, c3⟩ := HSC.out w' hS; go_simp; exact rfl)); simp only [Act.put, List.setIfInBounds_toArray, List.set_cons_zero, List.set_cons_succ, List.getElem_toArray, List.getElem_cons_zero, List.getElem_cons_succ])
  have HU6 := Lib.hid (row_keep HU2.out fun c hc => Y6.out.block c (HU2.out.lt c hc).2)
  have B6 := Lib.hid (B5.out.trans (Y6.out.mono B5.out.size))
  obtain ⟨D, hD⟩ : ∃ D, decide (¬ (x1 = s1 ∧ x2 = s2)) = D := ⟨_, rfl⟩
  have HDD := Lib.hid hD
  refine pl_run _ (.bool D) rfl rfl (fun w' hS => ?_) ?_
  · rw [← hD]
    by_cases e1 : x1 = s1
    · by_cases e2 : x2 = s2
      · subst e1 e2
        go_simp
      · subst e1
        go_simp
    · go_simp
  simp only [Act.put, List.setIfInBounds_toArray, List.set_cons_zero, List.set_cons_succ, List.getElem_toArray, List.getElem_cons_zero, List.getElem_cons_succ]
  clear hD
  refine pl_end ?_
  go_upto_if 27 with fail
  go_cut [8] from 28 to 32 (fun s8 wx => ∃ a8 c8, s8 = .slice a8 rs.length c8 ∧ wx.ownsRow w4.heap.size 9 1 (.slice a8 rs.length c8) rs.length (rs.map Value.string) ∧ Below w4.heap.size w4 wx)
  case first =>
    cases D with
    | false =>
      have HE := Lib.hid (show (L.map Prod.fst).map rcB = rs by
        have := of_decide_eq_false HDD.out
        rw [← HRS.out, if_pos, List.append_nil]
        by_cases e1 : x1 = s1
        · by_cases e2 : x2 = s2
          · rw [e1, e2]
          · exact absurd (fun h => e2 h.2) this
        · exact absurd (fun h => e1 h.1) this)
      have HEL := Lib.hid (show L.length = rs.length by rw [← HE.out, List.length_map, List.length_map])
      go_wp2_with fail
      go_meet
      refine ⟨u2a, u2c, by rw [HEL.out], ?_, B6.out⟩
      have := HU6.out
      rw [HE.out, HEL.out] at this
      exact this
    | true =>
      have HE := Lib.hid (show (L.map Prod.fst).map rcB ++ [rcS (x1, x2)] = rs by
        have := of_decide_eq_true HDD.out
        rw [← HRS.out, if_neg]
        intro h; injection h with h1 h2; exact this ⟨h1, h2⟩)
      have HEL := Lib.hid (show L.length + 1 = rs.length by rw [← HE.out, List.length_append, List.length_map, List.length_map]; rfl)
      obtain ⟨⟨d0, d1⟩, _⟩ := HSC.out w6 Y6.out
      go_wp2_with fail
      refine (record_any x1 x2 w6).mono ?_
      rintro e w7 ⟨rfl, hb7⟩
      have HU7 := Lib.hid (row_keep HU6.out fun c hc => hb7.block c (HU6.out.lt c hc).2)
      have B7 := Lib.hid (B6.out.trans (hb7.mono B6.out.size))
      obtain ⟨r, hr⟩ : ∃ r, rcS (x1, x2) = r := ⟨_, rfl⟩
      rw [hr]
      have HRR := Lib.hid hr
      obtain ⟨i0, hi0, hz0, hz1, hz2⟩ := info_parts info_str10
      have HI := Lib.hid hi0
      have HZZ := Lib.hid (And.intro hz0 (And.intro hz1 hz2))
      clear hb7 hr hi0 hz0 hz1 hz2 d0 d1
      go_wp2_with (at_builtin; refine wpList_append_own _ rfl _ _ 22 rfl w4.heap.size 9 i0 (.string ⟨#[]⟩) 1 16 (by kernel_rfl) HI.out HZZ.out.1 HZZ.out.2.1 HZZ.out.2.2 rfl (by decide) _ _ _ rfl (HU7.out.alloc _) ⟨w7.heap.size, 0, none⟩ 1 1 [.string r] rfl ?qc1 ?qc2 ?qc3 ?qc4 ?qc5 ?qc6 ?_)
      case qc1 => rfl
      case qc2 => exact cell_one_new _ _ _
      case qc3 => simp [Value.oneCell']
      case qc4 => have := HL.out; unfold maxLen; omega
      case qc5 => have := HL.out; omega
      case qc6 => have := B7.out.size; simp; omega
      intro v' w8 hown hgrow hnil
      obtain ⟨va, vc, rfl⟩ := own_sl6 hown
      have HOW := Lib.hid hown
      have B8 := Lib.hid ((B7.out.alloc B7.out.size _).grown hgrow (by have := B7.out.size; simp; omega) (fun k hk => (HU7.out.lt k hk).1))
      clear hown hgrow hnil
      go_wp2_with fail
      go_meet
      refine ⟨va, vc, by rw [HEL.out], ?_, B8.out⟩
      have e : rs.map Value.string = ((L.map Prod.fst).map rcB).map Value.string ++ [.string r] := by rw [← HE.out, List.map_append, HRR.out]; rfl
      have h2 := HOW.out
      rw [HEL.out] at h2
      rw [e]
      simpa [List.map_map] using h2
  case rest =>
    obtain ⟨a8, c8, rfl, hrow, hbc⟩ := hcut
    have HROW := Lib.hid hrow
    have BC := Lib.hid hbc
    clear hrow hbc
    have XC := Lib.hid (X4.out.trans (BC.out.mono X4.out.size))
    have QC := Lib.hid (Q4.out.below BC.out Q4.out.lt)
    have UC := Lib.hid (row_keep HU.out fun c hc => BC.out.block c (HU.out.lt c hc).2)
    have HMC := Lib.hid (HM.out.on XC.out)
    have HOL := Lib.hid (fun b (hb : O b) => at9_lt HO.out b hb)
    have HZ4 := Lib.hid (show w.heap.size ≤ w4.heap.size from X4.out.size)
    have HZC := Lib.hid (show w.heap.size ≤ wc.heap.size from XC.out.size)
    have HMO := Lib.hid (show O1 m ∧ ¬ O m ∧ m < w.heap.size from ⟨(HM.out.own m).2 (.inl rfl), HD.out m ((HM.out.own m).2 (.inl rfl)), HM.out.blk.lt⟩)
    have HVO := Lib.hid (show ∀ b, vb.ownBlock = some b → O1 b ∧ ¬ O b ∧ b < w.heap.size from fun b hb => ⟨(HM.out.own b).2 (.inr hb), HD.out b ((HM.out.own b).2 (.inr hb)), (HM.out.row.lt b hb).2⟩)
    have HWR := Lib.hid (recwrite_any O O1 wc m g ((s1, s2), bl) s vb rs (.slice a8 rs.length c8) (fun b => w4.heap.size ≤ b) (at9_keep HO.out (Keeps.of XC.out)) HMC.out HMO.out.2.1 (strsin_own HROW.out) (fun b hb ho => by have := HOL.out b ho; have := HZ4.out; omega) HFIT.out HLEN.out HZ.out)
    obtain ⟨P, hP⟩ : ∃ P, putL s rs = P := ⟨_, rfl⟩
    rw [hP] at HWR HYES
    obtain ⟨PL, PE⟩ := P
    simp only at HWR HYES
    clear hP
    go_wp2_with fail
    refine HWR.out.mono ?_
    rintro e w6 ⟨rfl, O', h6, hk6, ho6⟩
    have H6 := Lib.hid h6
    have K6 := Lib.hid hk6
    have HO6 := Lib.hid (show ∀ b, O' b → O b ∨ w.heap.size ≤ b from fun b hb => (ho6 b hb).imp id fun h => by have := HZC.out; omega)
    have HM6O := Lib.hid (show ¬ O' m from fun h => (ho6 m h).elim HMO.out.2.1 fun h => by have := HMO.out; have := HZC.out; omega)
    have HV6O := Lib.hid (show ∀ b, vb.ownBlock = some b → ¬ O' b from fun b hb h => (ho6 b h).elim (HVO.out b hb).2.1 fun h => by have := HVO.out b hb; have := HZC.out; omega)
    clear h6 hk6 ho6 HWR
    by_cases he : PE = 0
    · subst he
      have HM6 := Lib.hid (HMC.out.keep (K6.out.sub fun b hb _ => HD.out b hb))
      have HNO := Lib.hid (show ¬ O n from fun h => by have := HOL.out n h; have := HN.out; omega)
      have Q6 := Lib.hid (QC.out.of_heap (K6.out.block n HNO.out QC.out.lt))
      have HZ3 := Lib.hid (show w.heap.size ≤ w3.heap.size from X3.out.size)
      have U6 := Lib.hid (row_keep UC.out fun c hc => K6.out.block c (fun ho => by have := HOL.out c ho; have := (UC.out.lt c hc).1; have := HZ3.out; omega) (UC.out.lt c hc).2)
      have HMN := Lib.hid (show m ≠ n from by have := HMO.out; have := HN.out; omega)
      go_upto_region 10 with fail
      have HSD := Lib.hid (fun (wx : World) (hk : wx.heap[m]? = w6.heap[m]? ∧ wx.heap[n]? = w6.heap[n]?) => And.intro (cells4 (HM6.out.blk.of_heap hk.1)) (cells2 (Q6.out.of_heap hk.2)))
      refine planE_abs (fun wx => wx.heap[m]? = w6.heap[m]? ∧ wx.heap[n]? = w6.heap[n]?) 9 [(true, 0), (true, 1), (true, 2), (true, 3), (true, 4), (true, 5), (false, 6), (false, 7), (false, 8), (false, 9)] (by kernel_rfl) (by kernel_rfl) (fun _ _ d _ _ h => by cases d <;> exact h) fun w7 hs7 => ⟨by rw [hs7.heap]; exact ⟨rfl, rfl⟩, ?_⟩
      have Y7 := Lib.hid (show Below w6.heap.size w6 w7 from hs7.below _)
      clear hs7
      iterate 6 (refine pe_run _ ?_ rfl rfl ?_ ?_; rotate_left; (focus (intro w' hS; obtain ⟨⟨c0, c1, c2, c3⟩, d0, d1⟩ := HSD.out w' hS; go_simp; exact rfl)); simp only [Act.put, List.setIfInBounds_toArray, List.set_cons_zero, List.set_cons_succ, List.getElem_toArray, List.getElem_cons_zero, List.getElem_cons_succ])
      obtain ⟨U, hU⟩ : ∃ U, upS (s1, s2) (x1, x2) = U := ⟨_, rfl⟩
      rw [hU] at HYES
      refine pe_call (R := fun u w' => u = .agg #[.int .i64 U.1, .int .i64 U.2] ∧ Below w7.heap.size w7 w') _ rfl rfl (by go_simp) ((greatest_any (s1, s2) (x1, x2) w7).mono fun e w' h => ⟨_, h.1, by rw [hU], h.2⟩) (fun u w' h => by
        have hb := Y7.out.trans (h.2.mono Y7.out.size)
        exact ⟨hb.block m HM6.out.blk.lt, hb.block n Q6.out.lt⟩) fun u w8 hr => ?_
      obtain ⟨rfl, hb8⟩ := hr
      have Y8 := Lib.hid (Y7.out.trans (hb8.mono Y7.out.size))
      have HM8 := Lib.hid (HM6.out.on Y8.out)
      have U8 := Lib.hid (row_keep U6.out fun c hc => Y8.out.block c (U6.out.lt c hc).2)
      have S8 := Lib.hid (show w8.heap[m]? = w6.heap[m]? ∧ w8.heap[n]? = w6.heap[n]? from ⟨Y8.out.block m HM6.out.blk.lt, Y8.out.block n Q6.out.lt⟩)
      clear hb8 hU
      simp only [Act.put, List.setIfInBounds_toArray, List.set_cons_zero, List.set_cons_succ, List.getElem_toArray, List.getElem_cons_zero, List.getElem_cons_succ]
      refine pe_value (w' := w8) _ (.pointer (some ⟨m, 0, none⟩)) rfl rfl (by go_simp) S8.out ?_
      simp only [Act.put, List.setIfInBounds_toArray, List.set_cons_zero, List.set_cons_succ, List.getElem_toArray, List.getElem_cons_zero, List.getElem_cons_succ]
      refine pe_value (w' := w8) _ (.pointer (some ⟨m, 1, none⟩)) rfl rfl (by go_simp) S8.out ?_
      simp only [Act.put, List.setIfInBounds_toArray, List.set_cons_zero, List.set_cons_succ, List.getElem_toArray, List.getElem_cons_zero, List.getElem_cons_succ]
      refine pe_last _ rfl ?_
      simp only [List.getElem_toArray, List.getElem_cons_zero, List.getElem_cons_succ]
      obtain ⟨e0, e1, e2, e3⟩ := HM8.out.cells
      have f1 := HM8.out.blk.frz 1
      have f2 := HM8.out.blk.frz 2
      go_upto_region 11 with fail
      have UM := Lib.hid (show Upd m w8 ((w8.setCell ⟨m, 1, none⟩ (.int .i64 U.1)).setCell ⟨m, 2, none⟩ (.int .i64 U.2)) from ((Upd.refl m w8).trans (Upd.set _ _ _ _)).trans (Upd.set _ _ _ _))
      have BM := Lib.hid (show Blk ((w8.setCell ⟨m, 1, none⟩ (.int .i64 U.1)).setCell ⟨m, 2, none⟩ (.int .i64 U.2)) m 4 (rowL [.pointer (some ⟨g, 0, none⟩), .int .i64 U.1, .int .i64 U.2, vb]) from ((HM8.out.blk.set 1 (.int .i64 U.1)).set 2 (.int .i64 U.2)).congr _ fun i hi => match i, hi with | 0, _ => rfl | 1, _ => rfl | 2, _ => rfl | 3, _ => rfl)
      obtain ⟨w9, hw9⟩ : ∃ w9, (w8.setCell ⟨m, 1, none⟩ (.int .i64 U.1)).setCell ⟨m, 2, none⟩ (.int .i64 U.2) = w9 := ⟨_, rfl⟩
      rw [hw9] at UM BM
      rw [hw9]
      clear hw9 e0 e1 e2 e3 f1 f2
      have R9 := Lib.hid (row_keep HM8.out.row fun c hc => UM.out.block c (fun e => HM.out.ne (e ▸ hc)))
      have U9 := Lib.hid (row_keep U8.out fun c hc => UM.out.block c (fun e => by have := (U8.out.lt c hc).1; have := HMO.out; have := HZ3.out; omega))
      obtain ⟨i0, hi0, hz0, hz1, hz2⟩ := info_parts info_str10
      obtain ⟨v10, w10, hrun, ho, hgr, hlo⟩ := app_rows (P := Try.prog) (w := w9) 22 9 i0 _ (by kernel_rfl) hi0 hz0 hz1 hz2 rfl R9.out U9.out (fun y hy => by obtain ⟨z, _, rfl⟩ := List.mem_map.1 hy; rfl) (by have h1 := HL.out; have h2 : bl.length ≤ 1000 := HSL.out; show bl.length + L.length ≤ 10000; omega)
      obtain ⟨va, vc, rfl⟩ := own_sl6 ho
      have HRUN := Lib.hid hrun
      have HOW := Lib.hid ho
      have HGR := Lib.hid hgr
      have HLO := Lib.hid hlo
      have HMG := Lib.hid (hgr.block m BM.out.lt (fun e => HM.out.ne e.symm))
      have B10 := Lib.hid (BM.out.of_heap HMG.out)
      obtain ⟨e0, e1, e2, e3⟩ := cells4 BM.out
      obtain ⟨g0, g1, g2, g3⟩ := cells4 B10.out
      have f3 := B10.out.frz 3
      clear hrun ho hgr hlo hi0 hz0 hz1 hz2
      go_wp2_with (at_builtin; refine wpl_append_run rfl _ _ 22 rfl HRUN.out ?_)
      go_ret
      have hu := Upd.set w10 m 3 (.slice va (bl.length + L.length) vc)
      have hz : w.heap.size ≤ w6.heap.size := Nat.le_trans HZC.out K6.out.b0.size
      have hz9 : w6.heap.size ≤ w9.heap.size := Nat.le_trans Y8.out.size (UM.out.below (Nat.le_refl m)).size
      have k69 : Keeps (fun b => b ≠ m) w6 w9 := (Keeps.of Y8.out).trans (Keeps.upd UM.out fun b hb => hb)
      have kall : Keeps (fun b => b ≠ m ∧ vb.ownBlock ≠ some b) w6 (w10.setCell ⟨m, 3, none⟩ (.slice va (bl.length + L.length) vc)) :=
        ((k69.sub fun b hb _ => hb.1).trans (Keeps.grown HGR.out fun b e hb => hb.2 e)).trans (Keeps.upd hu fun b hb => hb.1)
      have hrow : (w10.setCell ⟨m, 3, none⟩ (.slice va (bl.length + L.length) vc)).ownsRow 0 9 1 (.slice va (bl.length + L.length) vc) (bl ++ L.map Prod.fst).length (((bl ++ L.map Prod.fst).map rcB).map Value.string) := by
        have h := row_keep HOW.out (w' := w10.setCell ⟨m, 3, none⟩ (.slice va (bl.length + L.length) vc)) fun c hc => hu.block c (fun e => by
          subst e
          rcases HLO.out c hc with h | h
          · exact HM.out.ne h
          · have := BM.out.lt; omega)
        have e1 : (bl ++ L.map Prod.fst).length = bl.length + L.length := by rw [List.length_append, List.length_map]
        rw [e1, List.map_append, List.map_append]
        exact h
      refine HYES.out _ _ rfl ?_
      rw [if_pos trivial]
      refine ⟨O', fun b => b = m ∨ (Value.slice va (bl.length + L.length) vc).ownBlock = some b, at9_keep H6.out (kall.sub fun b hb _ => ⟨fun e => HM6O.out (e ▸ hb), fun e => HV6O.out b e hb⟩), ⟨_, ⟨?_, hrow, fun _ => Iff.rfl, fun e => ?_⟩⟩, ?_, HO6.out, fun b hb => ?_⟩
      · exact (B10.out.set 3 (.slice va (bl.length + L.length) vc)).congr _ fun i hi => match i, hi with | 0, _ => rfl | 1, _ => rfl | 2, _ => rfl | 3, _ => rfl
      · rcases HLO.out m e with h | h
        · exact HM.out.ne h
        · have := BM.out.lt; omega
      · exact ((Keeps.of XC.out).trans (K6.out.sub fun b hb _ => hb.1)).trans (kall.sub fun b hb _ => ⟨fun e => hb.2 (e ▸ HMO.out.1), fun e => hb.2 (HVO.out b e).1⟩)
      · rcases hb with rfl | hb
        · exact ⟨Or.inl HMO.out.1, HM6O.out⟩
        · rcases HLO.out b hb with h | h
          · exact ⟨Or.inl (HVO.out b h).1, HV6O.out b h⟩
          · exact ⟨Or.inr (by omega), fun ho => by have := at9_lt H6.out b ho; omega⟩
    · have HE := Lib.hid he
      have t1 : (PE == 0) = false := by simpa using he
      clear he
      go_wp2_with fail
      go_ret
      refine HYES.out _ _ rfl ?_
      rw [if_neg HE.out]
      exact ⟨O', H6.out, (Keeps.of XC.out).trans (K6.out.sub fun b hb _ => hb.1), HO6.out⟩
end
end Go.Proofs.Ytnahebfhhcebpaa
end
section
open Go Go.RowKit
namespace Go.Proofs.Ytnahebfhhcebpaa
open TT SS RR FF JJ CC WW BB
def theCode10 : Code10 where
  At := At10 9
  keep := fun ⟨v, h⟩ hk => ⟨v, h.keep hk⟩
  lt := fun ⟨_, h⟩ => h.lt
  record := record_any
  blockRecord := blockrec_any
  recall := fun l v w hv hs hl => (recall_any l v w hv hs hl).mono fun _ _ ⟨u, L, h1, h2, h3, h4⟩ => ⟨u, L, h1, h2, h3.now, h4⟩
  open_ := fun O w g s h _ hs hn hg => open10 O w g s h hs hn hg
  state := fun O w m g st h _ => state10 O w m g st h
  blocks := fun O w m g st h hok => blocks10 O w m g st h hok
  save := fun O O1 A w m g st s x v L h hm hd _ _ hz hok hv _ hs hl => save10 O O1 A w m g st s x v L h hm hd hz hok hv hs hl
end Go.Proofs.Ytnahebfhhcebpaa
end
section
open Go Go.RowKit
namespace Go.Proofs.Ytnahebfhhcebpaa
open TT SS RR FF JJ CC MM WW BB
theorem lawRstore (l : List ByteArray) (v : Value) (w : World) (hv : StrsAt w v l) : Calls Try.prog 3 #[v] w fun e w' => e = .returned (.bool true) ∧ Below w.heap.size w w' := lawR10 theCode10 l v w hv
end Go.Proofs.Ytnahebfhhcebpaa
end
