/-
  What the code's calls on a tally answer, filled in.
-/
import Derived.Test.YtegkhhegapnkpaaDoorKTaBelow
import Derived.Test.YtegkhhegapnkpaaDoorKTaMake
import Derived.Test.YtegkhhegapnkpaaDoorKLNum
section
open Go Go.RowKit
namespace TA
open QU ZZ RR FF JJ CC MM WW BB
theorem snoc_nude (L : List Vx) (x : Vx) : (L ++ [x]).map nude = L.map nude ++ [nude x] := by rw [List.map_append]; rfl
/-- behind a call that turns a new block alone -/
theorem keeps_low {A : Nat → Prop} {w w1 w2 : World} {y : Nat} (h : Keeps A w w1) (k : Keeps (fun c => c ≠ y) w1 w2) (hy : w.heap.size ≤ y) : Keeps A w w2 :=
  ⟨h.b0.trans k.b0, fun b hb hl => (k.block b (by omega) (Nat.lt_of_lt_of_le hl h.b0.size)).trans (h.block b hb hl)⟩
/-- what Add tells -/
def AddAns (At : (Nat → Prop) → World → Nat → Ta → Prop) (O : Nat → Prop) (w : World) (g : Nat) (T : Ta) (x : Vt) (e : Ending) (w' : World) : Prop :=
  ∃ cv O', e = .returned (.tuple #[cv, .bool (toldT T x)]) ∧ At O' w' g (addT T x) ∧ Keeps (fun b => ¬ O b) w w' ∧ (∀ b, O' b → O b ∨ w.heap.size ≤ b) ∧ CertOf w.heap.size T x w' cv
theorem told_ok {T : Ta} {x : Vt} (h : okT T x = true) (c : Nat) (hc : cntL (addT T x).votes x.1 x.2.1 = c) : toldT T x = decide ((c : Int) = quorumI T.n) := by
  unfold toldT; rw [h, hc, Bool.true_and]
end TA
namespace Go.Proofs.YtegkhhegapnkpaaDoor
open TA QU ZZ RR FF JJ CC MM WW BB
theorem info_voteT : (Tryd.prog.info? 169).map (fun i => (i.zero, i.size, i.bytes)) = some (some (.agg #[.int .i64 0, .string ⟨#[]⟩, .int .i64 0, .slice none 0 0]), 4, 56) := by kernel_rfl
set_option maxRecDepth 100000 in
set_option maxHeartbeats 64000000 in
theorem add14 (O A : Nat → Prop) (w : World) (g : Nat) (T : Ta) (x : Vt) (tv : Value) (h : At14 O w g T) (hi : InvTa T) (hT : Tabs w) (hv : Dep A w (fun w' => StrsAt w' tv x.2.2.2)) (hx : Vote14 T x) :
    Calls Tryd.prog 57 #[.pointer (some ⟨g, 0, none⟩), .int .i64 x.1, .string x.2.1, .agg #[.int .i64 x.2.2.1, tv]] w (AddAns At14 O w g T x) := by
  obtain ⟨L, wv, K, h1, h3⟩ := h
  have H := Lib.hid h1
  have HO := Lib.hid h3
  have HI := Lib.hid hi
  have HT := Lib.hid hT
  have HX := Lib.hid hx
  have HV := Lib.hid hv.now
  have HL28 := Lib.hid (show L.length ≤ 28 by rw [h1.len]; exact hi.few)
  obtain ⟨wa, wc, hwv⟩ := h1.shape
  subst hwv
  obtain ⟨b, hb⟩ : ∃ b, okT T x = b := ⟨_, rfl⟩
  have HB := Lib.hid hb
  have HNO := Lib.hid (fun (w' : World) (cv : Value) (hn : okT T x = false) (hcv : cv = .agg #[.int .i64 0, .string ⟨#[]⟩, .slice none 0 0]) (hbl : Below w.heap.size w w') => show AddAns At14 O w g T x (.returned (.tuple #[cv, .bool false])) w' from
    ⟨cv, O, by rw [told_no hn], by rw [add_no hn]; exact ⟨L, _, K, h1.on hbl, h3⟩, Keeps.of hbl, fun b hb => .inl hb, fun _ => ⟨none, 0, hcv⟩, fun ht => by rw [told_no hn] at ht; cases ht⟩)
  have HTK := Lib.hid (fun (w' : World) (hbl : Below w.heap.size w w') => takes_any (h1.on hbl) hi (hT.below hbl (Nat.le_refl _)) x tv (hv.now.later hbl) hx b hb)
  obtain ⟨v, k, f, ts⟩ := x
  have HTL := Lib.hid (show ts.length ≤ 1000 from hx.tags)
  have HKS := Lib.hid (show k.size ≤ 1000 from hx.k)
  have HV2 := Lib.hid (show StrsAt w tv ts from HV.out)
  obtain ⟨ta, tc, rfl, _⟩ := hv.now
  show Calls Tryd.prog 57 #[.pointer (some ⟨g, 0, none⟩), .int .i64 v, .string k, .agg #[.int .i64 f, .slice ta ts.length tc]] w _
  replace HTK := Lib.hid (fun (w' : World) (hbl : Below w.heap.size w w') => show Calls Tryd.prog 109 #[.pointer (some ⟨g, 0, none⟩), .int .i64 v, .string k, .agg #[.int .i64 f, .slice ta ts.length tc]] w' (fun e w'' => e = .returned (.bool b) ∧ Below w'.heap.size w' w'') from HTK.out w' hbl)
  replace HV2 := Lib.hid (show StrsAt w (.slice ta ts.length tc) ts from HV2.out)
  obtain ⟨m, hm⟩ : ∃ m, ts.length = m := ⟨_, rfl⟩
  have HM := Lib.hid hm
  rw [hm] at HTK HV2 ⊢
  obtain ⟨y, hy⟩ : ∃ y, w.heap.size = y := ⟨_, rfl⟩
  have k0 : Blk ((w.alloc (.cells #[.int .i64 f, .slice ta m tc] 98)).alloc (.cells #[.int .i64 0, .string ⟨#[]⟩, .slice none 0 0] 24)) y 2 (cG (.int .i64 f) (.slice ta m tc)) := (Blk.new' hy.symm (cG_row _ _)).alloc _
  have r0 : Blk ((w.alloc (.cells #[.int .i64 f, .slice ta m tc] 98)).alloc (.cells #[.int .i64 0, .string ⟨#[]⟩, .slice none 0 0] 24)) (y + 1) 3 (cC (.int .i64 0) ⟨#[]⟩ (.slice none 0 0)) := Blk.new' (by simp; omega) (cC_row _ _ _)
  have b0 := ((Below.refl w.heap.size w).alloc (Nat.le_refl _) (.cells #[.int .i64 f, .slice ta m tc] 98)).alloc (by simp) (.cells #[.int .i64 0, .string ⟨#[]⟩, .slice none 0 0] 24)
  clear h1 h3 hi hT hv hx hb hm
  go_enter Tryd.func57, Tryd.ntmps57
  go_upto_region 1 with fail
  have HY := Lib.hid hy
  clear hy
  generalize (w.alloc (.cells #[.int .i64 f, .slice ta m tc] 98)).alloc (.cells #[.int .i64 0, .string ⟨#[]⟩, .slice none 0 0] 24) = w0 at *
  have K0 := Lib.hid k0
  have R0 := Lib.hid r0
  have B0 := Lib.hid b0
  clear k0 r0 b0
  have d0 : w0.cell? ⟨y, 0, none⟩ = some (.int .i64 f) := K0.out.get 0 (by omega)
  have d1 : w0.cell? ⟨y, 1, none⟩ = some (.slice ta m tc) := K0.out.get 1 (by omega)
  go_wp2_with fail
  clear d0 d1
  refine (HTK.out w0 B0.out).mono ?_
  rintro e w1 ⟨rfl, hb1⟩
  have B1 := Lib.hid (B0.out.trans (hb1.mono B0.out.size))
  have K1 := Lib.hid (K0.out.below hb1 K0.out.lt)
  have R1 := Lib.hid (R0.out.below hb1 R0.out.lt)
  clear hb1
  have HCV := Lib.hid (fun (wx : World) (hx : Blk wx (y + 1) 3 (cC (.int .i64 0) ⟨#[]⟩ (.slice none 0 0))) => show wx.cell? ⟨y + 1, 0, none⟩ = some (.int .i64 0) ∧ wx.cell? ⟨y + 1, 1, none⟩ = some (.string ⟨#[]⟩) ∧ wx.cell? ⟨y + 1, 2, none⟩ = some (.slice none 0 0) from ⟨hx.get 0 (by omega), hx.get 1 (by omega), hx.get 2 (by omega)⟩)
  rcases b with _ | _
  · obtain ⟨c0, c1, c2⟩ := HCV.out w1 R1.out
    have g0 := R1.out.frz 0
    have g1 := R1.out.frz 1
    have g2 := R1.out.frz 2
    go_wp2_with fail
    have k5 := ((R1.out.set 0 (.int .i64 0)).set 1 (.string ⟨#[]⟩)).set 2 (.slice none 0 0)
    have p0 := k5.get 0 (by omega)
    have p1 := k5.get 1 (by omega)
    have p2 := k5.get 2 (by omega)
    rw [show put (put (put (cC (.int .i64 0) ⟨#[]⟩ (.slice none 0 0)) 0 (.int .i64 0)) 1 (.string ⟨#[]⟩)) 2 (.slice none 0 0) 0 = .int .i64 0 from rfl] at p0
    rw [show put (put (put (cC (.int .i64 0) ⟨#[]⟩ (.slice none 0 0)) 0 (.int .i64 0)) 1 (.string ⟨#[]⟩)) 2 (.slice none 0 0) 1 = .string ⟨#[]⟩ from rfl] at p1
    rw [show put (put (put (cC (.int .i64 0) ⟨#[]⟩ (.slice none 0 0)) 0 (.int .i64 0)) 1 (.string ⟨#[]⟩)) 2 (.slice none 0 0) 2 = .slice none 0 0 from rfl] at p2
    have hup := ((Upd.set w1 (y + 1) 0 (.int .i64 0)).trans (Upd.set _ (y + 1) 1 (.string ⟨#[]⟩))).trans (Upd.set _ (y + 1) 2 (.slice none 0 0))
    refine bodyPost_ret (v := .tuple #[.agg #[.int .i64 0, .string ⟨#[]⟩, .slice none 0 0], .bool false]) (by simp [results, Tryd.results57, go_sem, p0, p1, p2]) rfl ?_
    exact HNO.out _ _ HB.out rfl (B1.out.trans (hup.below (by have := HY.out; omega)))
  · have HOK := Lib.hid (show okT T (v, k, f, ts) = true from HB.out)
    have HN7 := Lib.hid (show 1 ≤ T.n ∧ T.n ≤ 7 from by have := may_n (ok_of HOK.out).1; exact ⟨this.1, this.2.1⟩)
    have HNE := Lib.hid (show ts ≠ [] from fun e => by
      have h1 := (shaped_of (holds_of (may_of (ok_of HOK.out).1).2).2.2).1
      have h2 := HN7.out.1
      have h3 : ((ts.length : Nat) : Int) = T.n := h1
      rw [e] at h3; simp at h3; omega)
    have H1 := Lib.hid (H.out.on B1.out)
    go_upto_region 3 with fail
    have HYG := Lib.hid (show g < y ∧ w.heap.size = y from ⟨by have := H.out.blk.lt; have := HY.out; omega, HY.out⟩)
    have HCC := Lib.hid (fun (wx : World) (hx : wx.heap[g]? = w1.heap[g]? ∧ wx.heap[y]? = w1.heap[y]?) => show wx.cell? ⟨g, 4, none⟩ = some (.slice wa L.length wc) ∧ wx.cell? ⟨y, 0, none⟩ = some (.int .i64 f) ∧ wx.cell? ⟨y, 1, none⟩ = some (.slice ta m tc) from
      ⟨(H1.out.blk.blk.of_heap hx.1).get 4 (by omega), (K1.out.of_heap hx.2).get 0 (by omega), (K1.out.of_heap hx.2).get 1 (by omega)⟩)
    refine planE_abs (fun wx => wx.heap[g]? = w1.heap[g]? ∧ wx.heap[y]? = w1.heap[y]?) 14 [(true, 0), (true, 1), (true, 2), (true, 3), (true, 4), (true, 5), (true, 6), (true, 7), (false, 8), (false, 9), (false, 10), (false, 11), (false, 12), (false, 13), (false, 14)] (by kernel_rfl) (by kernel_rfl) (fun _ _ d _ _ h => by cases d <;> exact h) fun w2 hs2 => ⟨by rw [hs2.heap]; exact ⟨rfl, rfl⟩, ?_⟩
    have Y2 := Lib.hid (show Below w1.heap.size w1 w2 from hs2.below _)
    clear hs2
    iterate 8 (refine pe_run _ ?_ rfl rfl ?_ ?_; rotate_left; (focus (intro w' hS; obtain ⟨c4, d0, d1⟩ := HCC.out w' hS; go_simp; exact rfl)); simp only [Act.put, List.setIfInBounds_toArray, List.set_cons_zero, List.set_cons_succ, List.getElem_toArray, List.getElem_cons_zero, List.getElem_cons_succ])
    have HK2 := Lib.hid (fun (wz : World) (hb : Below w1.heap.size w1 wz) => show wz.heap[g]? = w1.heap[g]? ∧ wz.heap[y]? = w1.heap[y]? from ⟨hb.block g H1.out.blk.lt, hb.block y K1.out.lt⟩)
    -- the signature is copied
    refine pe_call (R := fun u w' => ∃ a0 cap, u = .agg #[.int .i64 f, .slice a0 m cap] ∧ StrsAt w' (.slice a0 m cap) ts ∧ (∀ c, (Value.slice a0 m cap).ownBlock = some c → w2.heap.size ≤ c) ∧ Below w2.heap.size w2 w') _ rfl rfl (by go_simp)
      ((ownsig_any f (.slice ta m tc) ts w2 (HV2.out.later (B1.out.trans (Y2.out.mono B1.out.size))) HTL.out).mono fun e w' ⟨a0, cap, he, h⟩ => by rw [HM.out] at he h; exact ⟨_, he, a0, cap, rfl, h⟩) (fun u w' ⟨_, _, _, _, _, hb⟩ => HK2.out w' (Y2.out.trans (hb.mono Y2.out.size))) fun u w3 hr => ?_
    obtain ⟨sa, sc, rfl, hst3, how3, hb3⟩ := hr
    have ST3 := Lib.hid hst3
    have HOW3 := Lib.hid how3
    have Y23 := Lib.hid hb3
    have Y3 := Lib.hid (Y2.out.trans (hb3.mono Y2.out.size))
    clear hst3 how3 hb3
    simp only [Act.put, List.setIfInBounds_toArray, List.set_cons_zero, List.set_cons_succ, List.getElem_toArray, List.getElem_cons_zero, List.getElem_cons_succ]
    refine pe_value (w' := w3) _ (.agg #[.int .i64 v, .string k, .int .i64 f, .slice sa m sc]) rfl rfl (by go_simp) (HK2.out w3 Y3.out) ?_
    simp only [Act.put, List.setIfInBounds_toArray, List.set_cons_zero, List.set_cons_succ, List.getElem_toArray, List.getElem_cons_zero, List.getElem_cons_succ]
    have BA := Lib.hid ((Below.refl w3.heap.size w3).alloc (Nat.le_refl _) (.cells #[.int .i64 v, .string k, .int .i64 f, .slice sa m sc] 169))
    have HNW := Lib.hid (new_at w3 169 [.int .i64 v, .string k, .int .i64 f, .slice sa m sc])
    obtain ⟨w4, hw4⟩ : ∃ w4, w3.alloc (.cells #[.int .i64 v, .string k, .int .i64 f, .slice sa m sc] 169) = w4 := ⟨_, rfl⟩
    have Y4 := Lib.hid (show Below w1.heap.size w1 w4 from hw4 ▸ (Y3.out.trans (BA.out.mono Y3.out.size)))
    refine pe_value (w' := w4) _ (.slice (some ⟨w3.heap.size, 0, none⟩) 1 1) rfl rfl (by rw [← hw4]; go_simp) (HK2.out w4 Y4.out) ?_
    simp only [Act.put, List.setIfInBounds_toArray, List.set_cons_zero, List.set_cons_succ, List.getElem_toArray, List.getElem_cons_zero, List.getElem_cons_succ]
    have HNW4 := Lib.hid (show ∀ j u, [Value.int .i64 v, .string k, .int .i64 f, .slice sa m sc][j]? = some u → w4.cell? ((⟨w3.heap.size, 0, none⟩ : Addr).add j) = some u from hw4 ▸ HNW.out)
    rw [hw4] at BA
    clear HNW hw4
    have H4 := Lib.hid (H1.out.on Y4.out)
    obtain ⟨ti, i1, i2, i3, i4⟩ := info_parts info_voteT
    obtain ⟨u', w5, hrun, hown, hgr, _, hloc⟩ := run_append_own_at (P := Tryd.prog) (w := w4) 0 164 164 169 ti _ 4 56 und_votesT i1 i2 i3 i4 rfl (by decide) _ L.length (cellsG encX L) H4.out.row ⟨w3.heap.size, 0, none⟩ 1 1 [.int .i64 v, .string k, .int .i64 f, .slice sa m sc] rfl HNW4.out (by intro u hu; simp only [List.mem_cons, List.not_mem_nil, or_false] at hu; rcases hu with rfl | rfl | rfl | rfl <;> rfl) (by have := HL28.out; unfold maxLen; omega) (by have := HL28.out; omega) (Nat.zero_le _)
    obtain ⟨ua, uc, rfl⟩ := row_shape hown
    have HLO := Lib.hid (show ∀ b, (Value.slice ua (L.length + 1) uc).ownBlock = some b → (Value.slice wa L.length wc).ownBlock = some b ∨ w4.heap.size ≤ b from fun b hb => by
      rcases hloc with h | h
      · exact .inl (h ▸ hb)
      · rw [h] at hb; injection hb with hb; exact .inr (by omega))
    have HGR := Lib.hid hgr
    have HOW := Lib.hid (show w5.ownsRow 0 169 4 (.slice ua (L.length + 1) uc) (L ++ [(v, k, f, (sa, sc), ts)]).length (cellsG encX (L ++ [(v, k, f, (sa, sc), ts)])) by
      rw [cellsG_snoc, List.length_append]
      rw [show encX (v, k, f, (sa, sc), ts) = [.int .i64 v, .string k, .int .i64 f, .slice sa m sc] by rw [← HM.out]; rfl]
      exact hown)
    have HWV := Lib.hid (fun b (hb : (Value.slice wa L.length wc).ownBlock = some b) => show b < y by have := (H.out.row.lt b hb).2; have := HY.out; omega)
    have S5 := Lib.hid (show w5.heap[g]? = w1.heap[g]? ∧ w5.heap[y]? = w1.heap[y]? from ⟨(hgr.block g H4.out.blk.lt (fun e => H4.out.gr e.symm)).trans (HK2.out w4 Y4.out).1, (hgr.block y (Nat.lt_of_lt_of_le K1.out.lt Y4.out.size) (fun e => by have := HWV.out y e.symm; omega)).trans (HK2.out w4 Y4.out).2⟩)
    have R5 := Lib.hid (show Blk w5 (y + 1) 3 (cC (.int .i64 0) ⟨#[]⟩ (.slice none 0 0)) from (R1.out.below Y4.out R1.out.lt).of_heap (hgr.block (y + 1) (Nat.lt_of_lt_of_le R1.out.lt Y4.out.size) (fun e => by have := HWV.out (y + 1) e.symm; omega)))
    clear hgr hown hloc i1 i2 i3 i4
    refine pe_value (w' := w5) _ (.slice ua (L.length + 1) uc) rfl rfl (by simp [execOp, resolve, invoke, builtin, Act.eval, hrun, Result.andThen]) S5.out ?_
    clear hrun
    simp only [Act.put, List.setIfInBounds_toArray, List.set_cons_zero, List.set_cons_succ, List.getElem_toArray, List.getElem_cons_zero, List.getElem_cons_succ]
    refine pe_value (w' := w5) _ (.pointer (some ⟨g, 0, none⟩)) rfl rfl (by go_simp) S5.out ?_
    simp only [Act.put, List.setIfInBounds_toArray, List.set_cons_zero, List.set_cons_succ, List.getElem_toArray, List.getElem_cons_zero, List.getElem_cons_succ]
    refine pe_value (w' := w5) _ (.pointer (some ⟨g, 4, none⟩)) rfl rfl (by go_simp) S5.out ?_
    simp only [Act.put, List.setIfInBounds_toArray, List.set_cons_zero, List.set_cons_succ, List.getElem_toArray, List.getElem_cons_zero, List.getElem_cons_succ]
    refine pe_last _ rfl ?_
    simp only [List.getElem_toArray, List.getElem_cons_zero, List.getElem_cons_succ]
    obtain ⟨e4, _, _⟩ := HCC.out w5 S5.out
    have f4 := (World.frozen?_of_block (w := w1) (a := ⟨g, 4, none⟩) S5.out.1).trans (H1.out.blk.blk.frz 4)
    go_upto_region 4 with fail
    -- the tally, with one vote more
    have hsz3 : y + 1 < w2.heap.size := Nat.lt_of_lt_of_le R1.out.lt Y2.out.size
    obtain ⟨K', hK'⟩ : ∃ K' : Nat → Prop, K' = fun b => K b ∨ (w2.heap.size ≤ b ∧ b < w3.heap.size) := ⟨_, rfl⟩
    have HKK := Lib.hid (fun b => show K' b ↔ K b ∨ (w2.heap.size ≤ b ∧ b < w3.heap.size) by rw [hK'])
    have HTQ := Lib.hid (H4.out.newrow (K' := K') HOW.out (Keeps.grown HGR.out fun b e k => k e) HLO.out (fun z hz => by
        rcases List.mem_append.1 hz with hz | hz
        · refine ((H4.out.tags z hz).keep (Keeps.grown HGR.out fun b e k => H4.out.kr b e k)).mono fun b hb => (HKK.out b).2 (.inl hb)
        · rw [List.mem_singleton.1 hz]
          have h1 : TagIn (fun b => w2.heap.size ≤ b ∧ b < w3.heap.size) w3 (f, (sa, sc), ts) := ⟨by show StrsAt w3 (.slice sa ts.length sc) ts; rw [HM.out]; exact ST3.out, fun c hc => by
            have hc : (Value.slice sa m sc).ownBlock = some c := by rw [← HM.out]; exact hc
            exact ⟨HOW3.out c hc, tagIn_lt ST3.out HNE.out c hc⟩⟩
          refine ((h1.keep (Keeps.of BA.out)).keep (Keeps.grown HGR.out fun b e k => ?_)).mono fun b hb => (HKK.out b).2 (.inr hb)
          have := HWV.out b e
          omega)
      (fun b hb => by
        refine Nat.lt_of_lt_of_le ?_ HGR.out.size
        rcases (HKK.out b).1 hb with h | h
        · exact H4.out.lt b h
        · have := BA.out.size; omega)
      (fun hb => by
        rcases (HKK.out g).1 hb with h | h
        · exact H4.out.kg h
        · have := HYG.out.1; omega)
      (fun b hb hk => by
        rcases HLO.out b hb with h | h
        · rcases (HKK.out b).1 hk with h2 | h2
          · exact H4.out.kr b h h2
          · have := HWV.out b h; omega
        · rcases (HKK.out b).1 hk with h2 | h2
          · have := H4.out.lt b h2; omega
          · have := BA.out.size; omega))
    have R6 := Lib.hid (R5.out.upd (Upd.set w5 g 4 (.slice ua (L.length + 1) uc)) (by have := HYG.out.1; omega))
    have B6 := Lib.hid (show w.heap.size ≤ w5.heap.size from Nat.le_trans B1.out.size (Nat.le_trans Y4.out.size HGR.out.size))
    obtain ⟨w6, hw6⟩ : ∃ w6, w5.setCell ⟨g, 4, none⟩ (.slice ua (L.length + 1) uc) = w6 := ⟨_, rfl⟩
    rw [hw6] at HTQ R6 ⊢
    have Z6 := Lib.hid (show w6.heap.size = w5.heap.size by rw [← hw6]; exact (Upd.set w5 g 4 _).size)
    clear hw6 e4 f4 hK' hsz3
    have HADD := Lib.hid (show addT T (v, k, f, ts) = { T with votes := (L ++ [(v, k, f, (sa, sc), ts)]).map nude } by rw [add_yes HOK.out, snoc_nude, H.out.is]; rfl)
    obtain ⟨T', hT'⟩ : ∃ T', addT T (v, k, f, ts) = T' := ⟨_, rfl⟩
    have HT' := Lib.hid hT'
    have H6 := Lib.hid (show TqM 166 169 w6 g T' (L ++ [(v, k, f, (sa, sc), ts)]) (.slice ua (L.length + 1) uc) K' by rw [← hT', HADD.out]; exact HTQ.out.1)
    have KW6 := Lib.hid (show Keeps (fun b => ¬ O b) w w6 from ((Keeps.of (B1.out.trans (Y4.out.mono B1.out.size))).trans (HTQ.out.2.sub fun b hb _ => ⟨fun e => hb ((HO.out b).2 (.inr (.inl e))), fun e => hb ((HO.out b).2 (.inl e))⟩)))
    have HOB := Lib.hid (fun b (hb : OwnT g (.slice ua (L.length + 1) uc) K' b) => show (O b ∨ w.heap.size ≤ b) ∧ b ≠ y + 1 ∧ b ≠ y from by
      have h9 := HYG.out
      have hz2 : y + 1 < w2.heap.size := Nat.lt_of_lt_of_le R1.out.lt Y2.out.size
      have hz4 : w2.heap.size ≤ w4.heap.size := Nat.le_trans Y23.out.size BA.out.size
      rcases hb with rfl | hb | hb
      · exact ⟨.inl ((HO.out _).2 (.inl rfl)), by omega, by omega⟩
      · rcases HLO.out b hb with h | h
        · have := HWV.out b h
          exact ⟨.inl ((HO.out _).2 (.inr (.inl h))), by omega, by omega⟩
        · exact ⟨.inr (by omega), by omega, by omega⟩
      · rcases (HKK.out b).1 hb with h | h
        · have := H.out.lt b h
          exact ⟨.inl ((HO.out _).2 (.inr (.inr h))), by omega, by omega⟩
        · exact ⟨.inr (by omega), by omega, by omega⟩)
    have HN' := Lib.hid (show T'.n = T.n by rw [← hT']; exact (add_same T (v, k, f, ts)).2.2.1)
    have HCN := Lib.hid (show (sigsX (L ++ [(v, k, f, (sa, sc), ts)]) v k).length = cntL T'.votes v k by rw [sigsX_len, H6.out.is])
    have HSB := Lib.hid (show (sigsX (L ++ [(v, k, f, (sa, sc), ts)]) v k).map bare = sigsT T'.votes v k by rw [sigsX_bare, H6.out.is])
    have HL6 := Lib.hid (show (L ++ [(v, k, f, (sa, sc), ts)]).length ≤ 1000 by rw [List.length_append, List.length_singleton]; have := HL28.out; omega)
    clear HTQ HADD hT' S5
    obtain ⟨X, hX⟩ : ∃ X, L ++ [(v, k, f, (sa, sc), ts)] = X := ⟨_, rfl⟩
    rw [hX] at H6 HCN HSB HL6
    clear hX
    have HTS := Lib.hid (fun y (hy : y ∈ sigsX X v k) => show y.2.2.length ≤ 1000 from by
      obtain ⟨z, hz, rfl⟩ := sigsX_sub X v k y hy
      have hi' := HI.out.add (v, k, f, ts)
      have h1 := hi'.each (nude z) (by rw [HT'.out, ← H6.out.is]; exact List.mem_map_of_mem hz)
      have h2 := (shaped_of (holds_of (may_of h1).2).2.2).1
      have h3 : ((z.2.2.2.2.length : Nat) : Int) = (addT T (v, k, f, ts)).n := h2
      rw [HT'.out, HN'.out] at h3
      have := HN7.out
      omega)
    go_wp2_with fail
    refine (sigs14 H6.out HL6.out v k).mono ?_
    rintro e w7 ⟨qa, qc, rfl, hsg7, hb7⟩
    have SG7 := Lib.hid hsg7
    have Y67 := Lib.hid hb7
    have H7 := Lib.hid (H6.out.on hb7)
    have R7 := Lib.hid (R6.out.below hb7 R6.out.lt)
    obtain ⟨_, _, e2, _, _⟩ := H7.out.cells
    rw [HN'.out] at e2
    clear hsg7 hb7
    obtain ⟨cn, hcn⟩ : ∃ cn, cntL T'.votes v k = cn := ⟨_, rfl⟩
    rw [HCN.out, hcn] at SG7 ⊢
    have HCN' := Lib.hid hcn
    have HTOLD := Lib.hid (show toldT T (v, k, f, ts) = decide ((cn : Int) = quorumI T.n) from told_ok HOK.out cn (by show cntL (addT T (v, k, f, ts)).votes v k = cn; rw [HT'.out, hcn]))
    obtain ⟨q, hq⟩ : ∃ q, quorumI T.n = q := ⟨_, rfl⟩
    have HQ := Lib.hid hq
    rw [hq] at HTOLD
    clear hcn
    go_wp2_with fail
    refine (cquorum_any T.n (by have := HN7.out; omega) w7).mono ?_
    rintro e w8 ⟨rfl, rfl⟩
    rw [hq]
    clear hq e2
    have HEND := Lib.hid (fun (w9 : World) (cv : Value) (b : Bool) (hbb : toldT T (v, k, f, ts) = b) (hk9 : Keeps (fun c => c ≠ y + 1) w7 w9) (hcv : CertOf w.heap.size T (v, k, f, ts) w9 cv) => show AddAns At14 O w g T (v, k, f, ts) (.returned (.tuple #[cv, .bool b])) w9 from
      ⟨cv, OwnT g (.slice ua (L.length + 1) uc) K', by rw [hbb], ⟨X, _, K', by rw [HT'.out]; exact H7.out.keep (hk9.sub fun c hc _ => (HOB.out c hc).2.1), fun _ => Iff.rfl⟩, keeps_low (KW6.out.trans (Keeps.of Y67.out)) hk9 (by have := HYG.out; omega), fun c hc => (HOB.out c hc).1, hcv⟩)
    by_cases hne : (cn : Int) = q
    · have t1 : ((cn : Int) != q) = false := by rw [hne]; simp
      have HTT := Lib.hid (show toldT T (v, k, f, ts) = true by rw [HTOLD.out]; exact decide_eq_true hne)
      have HC7 := Lib.hid (show cn ≤ 20 by
        have h1 := HQ.out
        have h2 := HN7.out
        unfold quorumI faultsI at h1
        rw [if_neg (by omega), if_neg (by omega)] at h1
        omega)
      clear hne
      go_wp2_with fail
      refine (make14_sg v k (.slice qa cn qc) (sigsX X v k) w7 SG7.out (by rw [HCN.out, HCN'.out]; exact HC7.out) HTS.out).mono ?_
      rintro e w9 ⟨na, nc, rfl, hsn9, hb9⟩
      have SN9 := Lib.hid hsn9
      have Y79 := Lib.hid hb9
      have R9 := Lib.hid (R7.out.below hb9 R7.out.lt)
      obtain ⟨c0, c1, c2⟩ := HCV.out w9 R9.out
      have g0 := R9.out.frz 0
      have g1 := R9.out.frz 1
      have g2 := R9.out.frz 2
      clear hsn9 hb9
      obtain ⟨mk, hmk⟩ : ∃ mk, (mkL (sigsX X v k)).length = mk := ⟨_, rfl⟩
      rw [hmk] at SN9 ⊢
      go_wp2_with fail
      have k5 := ((R9.out.set 0 (.int .i64 v)).set 1 (.string k)).set 2 (.slice na mk nc)
      have p0 := k5.get 0 (by omega)
      have p1 := k5.get 1 (by omega)
      have p2 := k5.get 2 (by omega)
      rw [show put (put (put (cC (.int .i64 0) ⟨#[]⟩ (.slice none 0 0)) 0 (.int .i64 v)) 1 (.string k)) 2 (.slice na mk nc) 0 = .int .i64 v from rfl] at p0
      rw [show put (put (put (cC (.int .i64 0) ⟨#[]⟩ (.slice none 0 0)) 0 (.int .i64 v)) 1 (.string k)) 2 (.slice na mk nc) 1 = .string k from rfl] at p1
      rw [show put (put (put (cC (.int .i64 0) ⟨#[]⟩ (.slice none 0 0)) 0 (.int .i64 v)) 1 (.string k)) 2 (.slice na mk nc) 2 = .slice na mk nc from rfl] at p2
      have hup := ((Upd.set w9 (y + 1) 0 (.int .i64 v)).trans (Upd.set _ (y + 1) 1 (.string k))).trans (Upd.set _ (y + 1) 2 (.slice na mk nc))
      refine bodyPost_ret (v := .tuple #[.agg #[.int .i64 v, .string k, .slice na mk nc], .bool true]) (by simp [results, Tryd.results57, go_sem, p0, p1, p2]) rfl ?_
      refine HEND.out _ _ true HTT.out ((Keeps.of Y79.out).trans (Keeps.upd' hup fun c => c rfl)) ⟨(fun h => by rw [HTT.out] at h; cases h), fun _ => ⟨sigsX X v k, .slice na mk nc, ?_, rfl, ?_⟩⟩
      · show (sigsX X v k).map bare = sigsT (addT T (v, k, f, ts)).votes v k
        rw [HSB.out, HT'.out]
      · have hl7 := R7.out.lt
        refine (SN9.out.keep (by rw [hup.size]; exact Nat.le_refl _) fun c hc _ => hup.block c (by omega)).mono ?_
        have := HYG.out
        omega
    · have t1 : ((cn : Int) != q) = true := by rw [bne_iff_ne]; exact hne
      have HTT := Lib.hid (show toldT T (v, k, f, ts) = false by rw [HTOLD.out]; exact decide_eq_false hne)
      obtain ⟨c0, c1, c2⟩ := HCV.out w7 R7.out
      have g0 := R7.out.frz 0
      have g1 := R7.out.frz 1
      have g2 := R7.out.frz 2
      clear hne
      go_wp2_with fail
      have k5 := ((R7.out.set 0 (.int .i64 0)).set 1 (.string ⟨#[]⟩)).set 2 (.slice none 0 0)
      have p0 := k5.get 0 (by omega)
      have p1 := k5.get 1 (by omega)
      have p2 := k5.get 2 (by omega)
      rw [show put (put (put (cC (.int .i64 0) ⟨#[]⟩ (.slice none 0 0)) 0 (.int .i64 0)) 1 (.string ⟨#[]⟩)) 2 (.slice none 0 0) 0 = .int .i64 0 from rfl] at p0
      rw [show put (put (put (cC (.int .i64 0) ⟨#[]⟩ (.slice none 0 0)) 0 (.int .i64 0)) 1 (.string ⟨#[]⟩)) 2 (.slice none 0 0) 1 = .string ⟨#[]⟩ from rfl] at p1
      rw [show put (put (put (cC (.int .i64 0) ⟨#[]⟩ (.slice none 0 0)) 0 (.int .i64 0)) 1 (.string ⟨#[]⟩)) 2 (.slice none 0 0) 2 = .slice none 0 0 from rfl] at p2
      have hup := ((Upd.set w7 (y + 1) 0 (.int .i64 0)).trans (Upd.set _ (y + 1) 1 (.string ⟨#[]⟩))).trans (Upd.set _ (y + 1) 2 (.slice none 0 0))
      refine bodyPost_ret (v := .tuple #[.agg #[.int .i64 0, .string ⟨#[]⟩, .slice none 0 0], .bool false]) (by simp [results, Tryd.results57, go_sem, p0, p1, p2]) rfl ?_
      exact HEND.out _ _ false HTT.out (Keeps.upd' hup fun c => c rfl) ⟨fun _ => ⟨none, 0, rfl⟩, (fun h => by rw [HTT.out] at h; cases h)⟩
end Go.Proofs.YtegkhhegapnkpaaDoor
end
section
open Go Go.RowKit
namespace Go.Proofs.YtegkhhegapnkpaaDoor
open TA QU FF JJ CC MM WW BB
/-- what the code's calls answer -/
def theCode14 : Code14 where
  At := At14
  keep := at14_keep
  lt := at14_lt
  new := fun w s d n _ => new14 w s d n
  add := fun O A w g T x tv h hi hT _ hv _ hx => add14 O A w g T x tv h hi hT hv hx
  below := fun O w g T v h hi _ => below14 O w g T v h hi
  len := fun O w g T h _ => len14 O w g T h
  count := fun O w g T v k h hi _ _ => count14 O w g T v k h hi
end Go.Proofs.YtegkhhegapnkpaaDoor
end
