/-
  The walk of the reference's Missing.
-/
import Derived.Test.YtegkhhegapnkpaaDoorKFAt
import Derived.Test.YtegkhhegapnkpaaDoorKPlanE
import Derived.Test.YtegkhhegapnkpaaDoorKERefS
import Derived.Test.YtegkhhegapnkpaaDoorKJUnlike
section
open Go Go.RowKit
namespace FF
open WW BB
theorem upF_len (F : Fo) : ∀ (k : Nat) (h : ByteArray) (out : List ByteArray), (upF F k h out).length ≤ out.length + k
  | 0, _, _ => by simp [upF]
  | k + 1, h, out => by
    unfold upF
    split
    · simp
    · split
      · simp
      · have := upF_len F k (parI (F.nodes.getD (atI F.nodes h).toNat i0).2) (out ++ [h])
        rw [List.length_append, List.length_singleton] at this; omega
theorem anc_len (F : Fo) (h : ByteArray) : (ancF F h).length ≤ F.nodes.length + 1 := by
  have := upF_len F (F.nodes.length + 1) h []
  simpa [ancF] using this
/-- the loop's state -/
structure UpSt (w0 : World) (g : Nat) (e : TypeId) (cs : List Value) (F : Fo) (h0 : ByteArray) (k : Nat) (h : ByteArray) (out : List ByteArray) (x : Value) (wr : World) : Prop where
  box : BoxAt w0 g cs wr
  row : wr.ownsRow (g + 1) e 1 x out.length (out.map Value.string)
  len : out.length = k
  eq : ancF F h0 = upF F (F.nodes.length + 1 - k) h out
  size : g + 1 ≤ wr.heap.size
  shape : ∃ a c, x = .slice a out.length c
end FF
namespace Go.Proofs.YtegkhhegapnkpaaDoor
open FF JJ CC WW BB
set_option maxRecDepth 100000 in
set_option maxHeartbeats 8000000 in
theorem fup_any (F : Fo) (h0 : ByteArray) (nv ov : Value) (w : World) (hv : FoAt w F nv ov) (hl : F.nodes.length ≤ 1000) :
    Calls Tryd.prog 98 #[.agg #[.string F.root, .int .i64 F.height, nv, ov], .string h0] w fun e w' => ∃ u, e = .returned u ∧ StrsAt w' u (ancF F h0) ∧ Below w.heap.size w w' := by
  have HFO := Lib.hid hv
  have HLF := Lib.hid hl
  obtain ⟨N, O, hN, hO, hn, ho⟩ := hv
  have HN := Lib.hid hN
  have HIN := Lib.hid hn
  have HNL := Lib.hid (show N.length = F.nodes.length by rw [← hN, List.length_map])
  have HL := Lib.hid (show N.length ≤ 1000 by rw [← hN, List.length_map] at hl; exact hl)
  obtain ⟨na, nc, rfl⟩ := iv_shape hn
  obtain ⟨oa, oc, rfl⟩ := iv_shape ho
  clear hN hO hn ho hl
  obtain ⟨g, hg⟩ : ∃ g, w.heap.size = g := ⟨_, rfl⟩
  have HG := Lib.hid hg
  have X0 := Lib.hid (show BoxAt w w.heap.size [.string F.root, .int .i64 F.height, .slice na N.length nc, .slice oa O.length oc] (w.alloc (.cells #[.string F.root, .int .i64 F.height, .slice na N.length nc, .slice oa O.length oc] 54)) from box_mk w [.string F.root, .int .i64 F.height, .slice na N.length nc, .slice oa O.length oc] 54)
  go_enter Tryd.func98, Tryd.ntmps98
  go_wp2_with fail
  rw [hg] at X0
  generalize w.alloc (.cells #[.string F.root, .int .i64 F.height, .slice na N.length nc, .slice oa O.length oc] 54) = w0 at *
  clear hg
  go_loopw [1, 5, 6] (fun y x z wr => ∃ (k : Nat) (h : ByteArray) (out : List ByteArray), k ≤ F.nodes.length + 1 ∧ y = .string h ∧ z = .int .i64 (k : Int) ∧ UpSt w g 9 [.string F.root, .int .i64 F.height, .slice na N.length nc, .slice oa O.length oc] F h0 k h out x wr) (fun _ _ z _ => F.nodes.length + 1 - (intOf z).toNat)
  case atStart => exact ⟨0, h0, [], Nat.zero_le _, rfl, rfl, X0.out, World.ownsRow_nil _ _ _ _, rfl, rfl, X0.out.lt, ⟨none, 0, rfl⟩⟩
  case round =>
    obtain ⟨k, h, out, hk, rfl, rfl, hst⟩ := hrel
    have HST := Lib.hid hst
    have k0 : (0 : Int) ≤ (k : Int) := by omega
    have kb : (k : Int) ≤ 1001 := by have := HLF.out; omega
    have c0 := hst.box.cell 0 _ rfl
    have c1 := hst.box.cell 1 _ rfl
    have c2 := hst.box.cell 2 _ rfl
    have c3 := hst.box.cell 3 _ rfl
    obtain ⟨xa, xc, rfl⟩ := hst.shape
    clear hst
    by_cases hlt : k ≤ F.nodes.length
    · have hlt' : (k : Int) ≤ (N.length : Int) := by rw [HNL.out]; omega
      have HLT := Lib.hid hlt
      have HUN := Lib.hid (show upF F (F.nodes.length + 1 - k) h out = if hasF F h = false then [] else if h = F.root then out ++ [h] else upF F (F.nodes.length + 1 - (k + 1)) (parI (F.nodes.getD (atI F.nodes h).toNat i0).2) (out ++ [h]) by
        rw [show F.nodes.length + 1 - k = (F.nodes.length + 1 - (k + 1)) + 1 by omega]; rfl)
      clear hk hlt
      go_wp2_with fail
      rcases hhas : hasF F h with _ | _
      · refine (fhas_is F h false hhas _ _ wr (HFO.out.later HST.out.box.below) HLF.out).mono ?_
        rintro e w2 ⟨rfl, hb2⟩
        have X2 := Lib.hid (HST.out.box.on hb2)
        clear hb2 c0 c1 c2 c3
        go_wp2_with fail
        go_ret
        refine ⟨_, rfl, ?_, X2.out.below⟩
        rw [HST.out.eq, HUN.out, if_pos hhas]
        exact ⟨none, 0, rfl, Or.inl rfl⟩
      · have HHAS := Lib.hid hhas
        refine (fhas_is F h true hhas _ _ wr (HFO.out.later HST.out.box.below) HLF.out).mono ?_
        rintro e w2 ⟨rfl, hb2⟩
        have X2 := Lib.hid (HST.out.box.on hb2)
        have R2 := Lib.hid (row_keep HST.out.row fun c hc => hb2.block c (HST.out.row.lt c hc).2)
        have Z2 := Lib.hid (Nat.le_trans HST.out.size hb2.size)
        clear hb2 c0 c1 c2 c3 hhas
        have A3 := Lib.hid ((Below.refl w2.heap.size w2).alloc (Nat.le_refl _) (.cells #[.string h] 9))
        have R3 := Lib.hid (row_keep R2.out fun c hc => A3.out.block c (R2.out.lt c hc).2)
        have X3 := Lib.hid (X2.out.on A3.out)
        have HQ3 := Lib.hid (show out.length + 1 ≤ maxLen by have := HST.out.len; unfold maxLen; omega)
        have HQ4 := Lib.hid (show (out.length + 1) * 16 ≤ 140737488355328 by have := HST.out.len; omega)
        obtain ⟨ti, i1, i2, i3, i4⟩ := info_parts (show (Tryd.prog.info? 9).map (fun i => (i.zero, i.size, i.bytes)) = some (some (.string ⟨#[]⟩), 1, 16) by kernel_rfl)
        go_wp2_with (at_builtin; refine wpList_append_own _ rfl _ _ 44 rfl (g + 1) 9 ti (.string ⟨#[]⟩) 1 16 (by kernel_rfl) i1 i2 i3 i4 rfl (by decide) _ _ _ rfl R3.out ⟨w2.heap.size, 0, none⟩ 1 1 [.string h] rfl rfl (cells1_new w2 h _) (cells1_one h) HQ3.out HQ4.out (sz_alloc Z2.out _) ?_)
        intro u' w3 hown' hgr _
        obtain ⟨a', c', rfl⟩ : ∃ a' c', u' = .slice a' (out.length + 1) c' := by
          rcases hown'.2 with ⟨_, h0⟩ | ⟨q, cp, cur, rfl, _⟩
          · omega
          · exact ⟨_, _, rfl⟩
        have BX := Lib.hid ((Below.refl (g + 1) (w2.alloc (.cells #[.string h] 9))).grown hgr (sz_alloc Z2.out _) (fun k hk => (R3.out.lt k hk).1))
        have R4 := Lib.hid (show w3.ownsRow (g + 1) 9 1 (.slice a' (out.length + 1) c') (out ++ [h]).length ((out ++ [h]).map Value.string) by
          rw [List.length_append, List.map_append]; exact hown')
        have X4 := Lib.hid (show BoxAt w g [.string F.root, .int .i64 F.height, .slice na N.length nc, .slice oa O.length oc] w3 from
          ⟨X3.out.below.trans (BX.out.mono (by rw [HG.out]; omega)), Nat.lt_of_lt_of_le X3.out.lt BX.out.size, fun i u hu => (BX.out.cell (p := ⟨g, i, none⟩) (Nat.lt_succ_self g)).trans (X3.out.cell i u hu)⟩)
        have Z4 := Lib.hid (Nat.le_trans (sz_alloc Z2.out (.cells #[.string h] 9)) BX.out.size)
        clear hown' hgr
        have c0 := X4.out.cell 0 _ rfl
        by_cases hroot : h = F.root
        · have t1 : (h.toList == F.root.toList) = true := by rw [hroot]; simp
          have HRT := Lib.hid hroot
          clear hroot
          go_wp2_with fail
          go_ret
          refine ⟨_, rfl, ?_, X4.out.below⟩
          rw [HST.out.eq, HUN.out, if_neg (by rw [HHAS.out]; simp), if_pos HRT.out]
          exact strs_own R4.out
        · have t1 := ba_beq hroot
          obtain ⟨pi, hpi⟩ : ∃ pi : Nat, atI F.nodes h = (pi : Int) := by
            have h1 := HHAS.out
            unfold hasF at h1
            rw [show decide (h = F.root) = false by simpa using hroot, Bool.false_or, decide_eq_true_eq] at h1
            exact ⟨(atI F.nodes h).toNat, by omega⟩
          have HPI := Lib.hid (show pi < N.length by have := (at_bound F.nodes h).2; rw [hpi, ← HNL.out] at this; omega)
          have HPX := Lib.hid hpi
          have HRT := Lib.hid hroot
          obtain ⟨nb, noff, rfl, hbw, hcell⟩ : ∃ nb noff, na = some ⟨nb, noff, none⟩ ∧ nb < w.heap.size ∧ _ := by
            obtain ⟨a9, c9, he, h9 | h9⟩ := HIN.out
            · have := HPI.out; rw [h9] at this; simp at this
            · injection he with e1 _ e3
              subst e1
              exact h9
          have HBW := Lib.hid hbw
          have HCELL := Lib.hid hcell
          have hpn : (pi : Int) < (N.length : Int) := by have := HPI.out; omega
          have hp0 : (0 : Int) ≤ (pi : Int) := by omega
          clear hroot hpi hbw hcell
          go_wp2_with fail
          clear c0
          refine plan_abs (fun wx => BoxAt w g [.string F.root, .int .i64 F.height, .slice (some ⟨nb, noff, none⟩) N.length nc, .slice oa O.length oc] wx) [(true, 0), (true, 1), (true, 2), (true, 3), (true, 4), (false, 5), (true, 6), (true, 7), (true, 8), (true, 9), (true, 10), (true, 11)] (by kernel_rfl) (by kernel_rfl) (fun _ _ d _ _ h => by cases d <;> exact h) fun w5 hs5 => ⟨X4.out.on (hs5.below _), ?_⟩
          have X5 := Lib.hid (X4.out.on (hs5.below _))
          have R5 := Lib.hid (row_keep R4.out fun c hc => (hs5.below w3.heap.size).block c (R4.out.lt c hc).2)
          have Z5 := Lib.hid (show g + 1 ≤ w5.heap.size by rw [hs5.heap]; exact Z4.out)
          clear hs5
          iterate 5 (refine pl_run _ ?_ rfl rfl ?_ ?_; rotate_left; (focus (intro w' hS; have c0 := hS.cell 0 _ rfl; have c1 := hS.cell 1 _ rfl; have c2 := hS.cell 2 _ rfl; have c3 := hS.cell 3 _ rfl; obtain ⟨p0, p1, p2, p3, p4, p5, p6⟩ := iv_cells hS.below HBW.out HCELL.out pi HPI.out; go_simp; exact rfl)); simp only [Act.put, List.setIfInBounds_toArray, List.set_cons_zero, List.set_cons_succ, List.getElem_toArray, List.getElem_cons_zero, List.getElem_cons_succ])
          refine pl_call1 _ rfl rfl (by go_simp) (fat_is N F.nodes _ h pi HN.out HPX.out w5 (HIN.out.later X5.out.below) HL.out) (fun w' hb => by subst hb; exact X5.out) fun w6 hb6 => ?_
          subst hb6
          simp only [Act.put, List.setIfInBounds_toArray, List.set_cons_zero, List.set_cons_succ, List.getElem_toArray, List.getElem_cons_zero, List.getElem_cons_succ]
          iterate 6 (refine pl_run _ ?_ rfl rfl ?_ ?_; rotate_left; (focus (intro w' hS; have c0 := hS.cell 0 _ rfl; have c1 := hS.cell 1 _ rfl; have c2 := hS.cell 2 _ rfl; have c3 := hS.cell 3 _ rfl; obtain ⟨p0, p1, p2, p3, p4, p5, p6⟩ := iv_cells hS.below HBW.out HCELL.out pi HPI.out; go_simp; exact rfl)); simp only [Act.put, List.setIfInBounds_toArray, List.set_cons_zero, List.set_cons_succ, List.getElem_toArray, List.getElem_cons_zero, List.getElem_cons_succ])
          refine pl_end ?_
          go_wp2_with fail
          go_roundw
          case rel =>
            refine ⟨k + 1, _, out ++ [h], by have := HLT.out; omega, rfl, by go_num, X5.out, R5.out, by rw [List.length_append, HST.out.len]; rfl, ?_, Z5.out, ⟨a', c', by rw [List.length_append]; rfl⟩⟩
            rw [HST.out.eq, HUN.out, if_neg (by rw [HHAS.out]; simp), if_neg HRT.out, HPX.out, Int.toNat_natCast, ← HN.out, map_getD N pi HPI.out]; rfl
          case measure => have := HLT.out; simp [intOf]; omega
    · obtain rfl : k = F.nodes.length + 1 := by omega
      have hlt' : ¬ ((F.nodes.length + 1 : Nat) : Int) ≤ (N.length : Int) := by rw [HNL.out]; omega
      clear hk hlt
      go_wp2_with fail
      go_ret
      refine ⟨_, rfl, ?_, HST.out.box.below⟩
      rw [HST.out.eq, Nat.sub_self]
      exact ⟨none, 0, rfl, Or.inl rfl⟩
end Go.Proofs.YtegkhhegapnkpaaDoor
end
section
open Go Go.RowKit
namespace FF
open WW BB
/-- a slice of strings, cell by cell -/
theorem strs_cell {w wr : World} {a0 : Option Addr} {n c : Nat} {l : List ByteArray} (h : StrsAt w (.slice a0 n c) l) (hb : Below w.heap.size w wr) (i : Nat) (hi : i < l.length) : ∃ b off, a0 = some ⟨b, off, none⟩ ∧ b < w.heap.size ∧ wr.cell? ⟨b, off + i, none⟩ = some (.string (l.getD i ⟨#[]⟩)) := by
  obtain ⟨a1, c1, he, h | ⟨b, off, h1, h2, h3⟩⟩ := h
  · subst h; simp at hi
  · injection he with e1 _ _
    subst h1
    exact ⟨b, off, e1, h2, (hb.cell (p := ⟨b, off + i, none⟩) h2).trans (h3 i hi)⟩
theorem strs_shape {w : World} {v : Value} {l : List ByteArray} (h : StrsAt w v l) : ∃ a c, v = .slice a l.length c := by
  obtain ⟨a, c, rfl, _⟩ := h; exact ⟨a, c, rfl⟩
/-- the first place of a string, or none -/
theorem find_hit {l : List ByteArray} {h : ByteArray} (i : Nat) (hi : i < l.length) (hn : ∀ j, j < i → l.getD j ⟨#[]⟩ ≠ h) (he : l.getD i ⟨#[]⟩ = h) : l.findIdx? (fun x => decide (x = h)) = some i := by
  rw [List.findIdx?_eq_some_iff_getElem]
  refine ⟨hi, by simpa [List.getD, List.getElem?_eq_getElem hi] using he, fun j hj => ?_⟩
  have := hn j hj
  simpa [List.getD, List.getElem?_eq_getElem (show j < l.length by omega)] using this
theorem find_none {l : List ByteArray} {h : ByteArray} (hn : ∀ j, j < l.length → l.getD j ⟨#[]⟩ ≠ h) : l.findIdx? (fun x => decide (x = h)) = none := by
  rw [List.findIdx?_eq_none_iff]
  intro x hx
  obtain ⟨j, hj, rfl⟩ := List.getElem_of_mem hx
  have := hn j hj
  simpa [List.getD, List.getElem?_eq_getElem hj] using this
theorem take_rev {l : List ByteArray} {i k : Nat} (hk : k < i) (hi : i ≤ l.length) : (l.take i).reverse.take (i - k) = (l.take i).reverse.take (i - (k + 1)) ++ [l.getD k ⟨#[]⟩] := by
  have h1 : i - (k + 1) < (l.take i).reverse.length := by simp; omega
  rw [show i - k = (i - (k + 1)) + 1 by omega, List.take_add_one, List.getElem?_eq_getElem h1]
  congr 1
  simp only [Option.toList_some, List.cons.injEq, and_true]
  rw [List.getElem_reverse, List.getElem_take]
  have h2 : (l.take i).length - 1 - (i - (k + 1)) = k := by simp; omega
  simp only [h2]
  simp [List.getD, List.getElem?_eq_getElem (show k < l.length by omega)]
end FF
namespace Go.Proofs.YtegkhhegapnkpaaDoor
open FF JJ CC WW BB
set_option maxRecDepth 100000 in
set_option maxHeartbeats 4000000 in
theorem fheight_any (F : Fo) (h0 : ByteArray) (nv ov : Value) (w : World) (hv : FoAt w F nv ov) (hl : F.nodes.length ≤ 1000) (hh0 : 0 ≤ F.height) (hh1 : F.height ≤ 1000000) :
    Calls Tryd.prog 90 #[.agg #[.string F.root, .int .i64 F.height, nv, ov], .string h0] w fun e w' => e = .returned (.int .i64 (heightF F h0)) ∧ Below w.heap.size w w' := by
  have HFO := Lib.hid hv
  have HLF := Lib.hid hl
  obtain ⟨N, O, hN, hO, hn, ho⟩ := hv
  obtain ⟨na, nc, rfl⟩ := iv_shape hn
  obtain ⟨oa, oc, rfl⟩ := iv_shape ho
  clear hN hO hn ho hl
  obtain ⟨g, hg⟩ : ∃ g, w.heap.size = g := ⟨_, rfl⟩
  have X0 := Lib.hid (show BoxAt w w.heap.size [.string F.root, .int .i64 F.height, .slice na N.length nc, .slice oa O.length oc] (w.alloc (.cells #[.string F.root, .int .i64 F.height, .slice na N.length nc, .slice oa O.length oc] 54)) from box_mk w [.string F.root, .int .i64 F.height, .slice na N.length nc, .slice oa O.length oc] 54)
  have HH0 := Lib.hid hh0
  have HH1 := Lib.hid hh1
  clear hh0 hh1
  go_enter Tryd.func90, Tryd.ntmps90
  go_wp2_with fail
  refine (fup_any F h0 _ _ _ (HFO.out.later X0.out.below) HLF.out).mono ?_
  rintro e w2 ⟨u, rfl, hu, hb2⟩
  have X2 := Lib.hid (X0.out.on hb2)
  obtain ⟨ua, uc, rfl⟩ := strs_shape hu
  have HAL := Lib.hid (anc_len F h0)
  rw [hg] at X2
  have c1 := X2.out.cell 1 _ rfl
  obtain ⟨m, hm⟩ : ∃ m, (ancF F h0).length = m := ⟨_, rfl⟩
  have HM := Lib.hid hm
  rw [hm]
  have mb : (m : Int) ≤ 1001 := by have := HAL.out; have := HLF.out; omega
  clear hu hb2 hm X0
  by_cases h0 : m = 0
  · have HZ := Lib.hid h0
    have t1 : ((m : Int) == 0) = true := by subst h0; rfl
    clear h0
    go_wp2_with fail
    go_ret
    refine ⟨?_, by rw [hg]; exact hg ▸ X2.out.below⟩
    unfold heightF; rw [HM.out, if_pos HZ.out]; rfl
  · have HZ := Lib.hid h0
    have t1 : ((m : Int) == 0) = false := by simp; omega
    have q0 := HH0.out
    have q1 := HH1.out
    have m0 : (0 : Int) ≤ (m : Int) := by omega
    clear h0
    go_wp2_with fail
    go_ret
    refine ⟨?_, by rw [hg]; exact hg ▸ X2.out.below⟩
    unfold heightF; rw [HM.out, if_neg HZ.out]
    go_num
set_option maxRecDepth 100000 in
set_option maxHeartbeats 4000000 in
theorem fsame_any (l m : List ByteArray) (v u : Value) (w : World) (hv : StrsAt w v l) (hu : StrsAt w u m) (hl : l.length ≤ 1000000000) :
    Calls Tryd.prog 35 #[v, u] w fun e w' => e = .returned (.bool (decide (l = m))) ∧ Below w.heap.size w w' := by
  have HV := Lib.hid hv
  have HU := Lib.hid hu
  have HL := Lib.hid hl
  obtain ⟨a0, cap, rfl⟩ := strs_shape hv
  obtain ⟨b0, bap, rfl⟩ := strs_shape hu
  clear hl hv hu
  by_cases hlm : l.length = m.length
  · have HLM := Lib.hid hlm
    have t0 : ((l.length : Int) != (m.length : Int)) = false := by rw [hlm]; simp
    clear hlm
    obtain ⟨X, hX⟩ : ∃ X, decide (l = m) = X := ⟨_, rfl⟩
    have HX := Lib.hid hX
    rw [hX]
    clear hX
    go_enter Tryd.func35, Tryd.ntmps35
    go_wp2_with fail
    clear t0
    go_loopw [5] (fun v wr => ∃ i : Nat, i ≤ l.length ∧ v = .int .i64 (i : Int) ∧ (∀ j, j < i → l.getD j ⟨#[]⟩ = m.getD j ⟨#[]⟩) ∧ Below w.heap.size w wr) (fun v _ => l.length - (intOf v).toNat)
    case atStart => exact ⟨0, Nat.zero_le _, rfl, fun j hj => absurd hj (Nat.not_lt_zero _), Below.refl _ _⟩
    case round =>
      obtain ⟨i, hi, rfl, hal, hb⟩ := hrel
      have HALL := Lib.hid hal
      have HB := Lib.hid hb
      have i0 : (0 : Int) ≤ (i : Int) := by omega
      have ib : (i : Int) ≤ 1000000000 := by have := HL.out; omega
      clear hal hb
      by_cases hlt : i < l.length
      · have hlt' : (i : Int) < (l.length : Int) := by omega
        have hlt2 : (i : Int) < (m.length : Int) := by rw [← HLM.out]; omega
        have HLT := Lib.hid hlt
        obtain ⟨gb, off, rfl, hbw, -⟩ := strs_cell HV.out HB.out i hlt
        obtain ⟨gb2, off2, rfl, hbw2, -⟩ := strs_cell HU.out HB.out i (by omega)
        obtain ⟨x, hx⟩ : ∃ x, l.getD i ⟨#[]⟩ = x := ⟨_, rfl⟩
        obtain ⟨y, hy⟩ : ∃ y, m.getD i ⟨#[]⟩ = y := ⟨_, rfl⟩
        have HXY := Lib.hid (And.intro hx hy)
        have C1 := Lib.hid (show ∀ w', Below w.heap.size w w' → w'.cell? ⟨gb, off + i, none⟩ = some (.string x) from fun w' h => by
          obtain ⟨b', o', he, _, hc⟩ := strs_cell HV.out h i hlt
          injection he with he; injection he with e1 e2; subst e1 e2; rw [hc, hx])
        have C2 := Lib.hid (show ∀ w', Below w.heap.size w w' → w'.cell? ⟨gb2, off2 + i, none⟩ = some (.string y) from fun w' h => by
          obtain ⟨b', o', he, _, hc⟩ := strs_cell HU.out h i (by rw [← HLM.out]; exact hlt)
          injection he with he; injection he with e1 e2; subst e1 e2; rw [hc, hy])
        clear hi hlt hbw hbw2 hx hy
        go_wp2_with fail
        by_cases he : x = y
        · have t1 : (x.toList == y.toList) = true := by rw [he]; simp
          have HE := Lib.hid he
          clear he
          refine plan_abs (fun wx => Below w.heap.size w wx) [(true, 0), (true, 1), (true, 2), (true, 3), (true, 4), (true, 5), (true, 6), (true, 7), (true, 8)] (by kernel_rfl) (by kernel_rfl) (fun _ _ d _ _ h => by cases d <;> exact h) fun w5 hs5 => ⟨HB.out.trans ((hs5.below _).mono HB.out.size), ?_⟩
          have B5 := Lib.hid (HB.out.trans ((hs5.below _).mono HB.out.size))
          clear hs5
          iterate 9 (refine pl_run _ ?_ rfl rfl ?_ ?_; rotate_left; (focus (intro w' hS; have c0 := C1.out w' hS; have c1 := C2.out w' hS; go_simp; exact rfl)); simp only [Act.put, List.setIfInBounds_toArray, List.set_cons_zero, List.set_cons_succ, List.getElem_toArray, List.getElem_cons_zero, List.getElem_cons_succ])
          refine pl_end ?_
          go_wp2_with fail
          go_roundw
          case rel => exact ⟨i + 1, by have := HLT.out; omega, by go_num, fun j hj => if h : j = i then by subst h; rw [HXY.out.1, HXY.out.2]; exact HE.out else HALL.out j (by omega), B5.out⟩
          case measure => have := HLT.out; simp [intOf]; omega
        · have t1 := ba_beq he
          have HE := Lib.hid he
          clear he
          refine plan_abs (fun wx => Below w.heap.size w wx) [(true, 0), (true, 1), (true, 2), (true, 3), (true, 4), (true, 5), (true, 6), (true, 7), (true, 8)] (by kernel_rfl) (by kernel_rfl) (fun _ _ d _ _ h => by cases d <;> exact h) fun w5 hs5 => ⟨HB.out.trans ((hs5.below _).mono HB.out.size), ?_⟩
          have B5 := Lib.hid (HB.out.trans ((hs5.below _).mono HB.out.size))
          clear hs5
          iterate 9 (refine pl_run _ ?_ rfl rfl ?_ ?_; rotate_left; (focus (intro w' hS; have c0 := C1.out w' hS; have c1 := C2.out w' hS; go_simp; exact rfl)); simp only [Act.put, List.setIfInBounds_toArray, List.set_cons_zero, List.set_cons_succ, List.getElem_toArray, List.getElem_cons_zero, List.getElem_cons_succ])
          refine pl_end ?_
          go_wp2_with fail
          go_ret
          refine ⟨?_, B5.out⟩
          have hne : l ≠ m := list_ne_at (d := ⟨#[]⟩) (i := i) (by rw [HXY.out.1, HXY.out.2]; exact HE.out)
          rw [← HX.out]; simp [hne]
      · obtain rfl : i = l.length := by omega
        have hlt' : ¬ (l.length : Int) < (l.length : Int) := by omega
        clear hi hlt
        go_wp2_with fail
        go_ret
        refine ⟨?_, HB.out⟩
        have he : l = m := list_eq_at HLM.out HALL.out
        rw [← HX.out]; simp [he]
  · have t0 : ((l.length : Int) != (m.length : Int)) = true := by rw [bne_iff_ne]; omega
    have HLM := Lib.hid hlm
    clear hlm
    go_enter Tryd.func35, Tryd.ntmps35
    go_wp2_with fail
    go_ret
    refine ⟨?_, Below.refl _ _⟩
    have hne : l ≠ m := by rintro rfl; exact HLM.out rfl
    simp [hne]
set_option maxRecDepth 100000 in
set_option maxHeartbeats 8000000 in
theorem fpath_any (F : Fo) (from_ to_ : ByteArray) (nv ov : Value) (w : World) (hv : FoAt w F nv ov) (hl : F.nodes.length ≤ 1000) :
    Calls Tryd.prog 34 #[.agg #[.string F.root, .int .i64 F.height, nv, ov], .string from_, .string to_] w fun e w' => ∃ u, e = .returned (.tuple #[u, .bool (pathF F from_ to_).isSome]) ∧ StrsAt w' u ((pathF F from_ to_).getD []) ∧ Below w.heap.size w w' := by
  have HFO := Lib.hid hv
  have HLF := Lib.hid hl
  obtain ⟨N, O, hN, hO, hn, ho⟩ := hv
  obtain ⟨na, nc, rfl⟩ := iv_shape hn
  obtain ⟨oa, oc, rfl⟩ := iv_shape ho
  clear hN hO hn ho hl
  have X0 := Lib.hid ((Below.refl w.heap.size w).alloc (Nat.le_refl _) (.cells #[.string F.root, .int .i64 F.height, .slice na N.length nc, .slice oa O.length oc] 54))
  go_enter Tryd.func34, Tryd.ntmps34
  go_wp2_with fail
  refine (fup_any F to_ _ _ _ (HFO.out.later X0.out) HLF.out).mono ?_
  rintro e w2 ⟨u, rfl, hu, hb2⟩
  have X2 := Lib.hid (X0.out.trans (hb2.mono X0.out.size))
  have HU := Lib.hid hu
  obtain ⟨ua, uc, rfl⟩ := strs_shape hu
  have HAL := Lib.hid (Nat.le_trans (anc_len F to_) (Nat.add_le_add_right HLF.out 1))
  have HPA := Lib.hid (show pathF F from_ to_ = match (ancF F to_).findIdx? (fun x => decide (x = from_)) with | some i => some ((ancF F to_).take i).reverse | none => none from rfl)
  generalize ancF F to_ = l at *
  clear hu hb2 X0
  go_wp2_with fail
  go_loopw [9] (fun x wr => ∃ i : Nat, i ≤ l.length ∧ x = .int .i64 (i : Int) ∧ (∀ j, j < i → l.getD j ⟨#[]⟩ ≠ from_) ∧ w2 = wr) (fun x _ => l.length - (intOf x).toNat)
  case atStart => exact ⟨0, Nat.zero_le _, rfl, fun j hj => absurd hj (Nat.not_lt_zero _), rfl⟩
  case round =>
    obtain ⟨i, hi, rfl, hal, rfl⟩ := hrel
    have HALL := Lib.hid hal
    have i0 : (0 : Int) ≤ (i : Int) := by omega
    have ib : (i : Int) ≤ 1001 := by have := HAL.out; omega
    clear hal
    by_cases hlt : i < l.length
    · have hlt' : (i : Int) < (l.length : Int) := by omega
      have HLT := Lib.hid hlt
      obtain ⟨gb, off, rfl, hbw, hc⟩ := strs_cell HU.out (Below.refl _ w2) i hlt
      obtain ⟨x, hx⟩ : ∃ x, l.getD i ⟨#[]⟩ = x := ⟨_, rfl⟩
      have HX := Lib.hid hx
      rw [hx] at hc
      clear hi hlt hbw hx
      by_cases he : x = from_
      · have t1 : (x.toList == from_.toList) = true := by rw [he]; simp
        have HE := Lib.hid he
        have HF := Lib.hid (show pathF F from_ to_ = some ((l.take i).reverse) by rw [HPA.out, find_hit i HLT.out HALL.out (by rw [HX.out]; exact HE.out)])
        clear he
        go_wp2_with fail
        clear t1 hc
        go_loopw [10, 11] (fun y z wr => ∃ k : Nat, k ≤ i ∧ z = .int .i64 ((k : Int) - 1) ∧ wr.ownsRow w2.heap.size 9 1 y (i - k) (((l.take i).reverse.take (i - k)).map Value.string) ∧ (∃ a c, y = .slice a (i - k) c) ∧ Below w2.heap.size w2 wr) (fun _ z _ => (intOf z + 1).toNat)
        case atStart => exact ⟨i, Nat.le_refl _, by go_num, by rw [Nat.sub_self]; exact World.ownsRow_nil _ _ _ _, ⟨none, 0, by rw [Nat.sub_self]⟩, Below.refl _ _⟩
        case round =>
          obtain ⟨k, hk, rfl, hrow, hsh, hb⟩ := hrel
          have ROW := Lib.hid hrow
          have HB := Lib.hid hb
          obtain ⟨ya, yc, rfl⟩ := hsh
          have k0 : (0 : Int) ≤ (k : Int) := by omega
          have kb : (k : Int) ≤ 1001 := by omega
          clear hrow hb
          by_cases hk0 : 0 < k
          · obtain ⟨m, rfl⟩ : ∃ m, k = m + 1 := ⟨k - 1, by omega⟩
            have HK := Lib.hid hk
            have hz : (((m + 1 : Nat) : Int) - 1) = (m : Int) := by omega
            rw [hz]
            have m0 : (0 : Int) ≤ (m : Int) := by omega
            have ml : (m : Int) < (l.length : Int) := by have := HLT.out; omega
            have mb : (m : Int) ≤ 1001 := by omega
            obtain ⟨b9, o9, he9, _, hc⟩ := strs_cell HU.out HB.out m (by have := HLT.out; omega)
            injection he9 with he9; injection he9 with e1 e2; subst e1 e2
            obtain ⟨y, hy⟩ : ∃ y, l.getD m ⟨#[]⟩ = y := ⟨_, rfl⟩
            rw [hy] at hc
            have HTR := Lib.hid (show (l.take i).reverse.take (i - m) = (l.take i).reverse.take (i - (m + 1)) ++ [y] by rw [← hy]; exact take_rev (by have := HK.out; omega) (Nat.le_of_lt HLT.out))
            have R0 := Lib.hid ROW.out
            obtain ⟨tk, htk⟩ : ∃ tk, (l.take i).reverse.take (i - (m + 1)) = tk := ⟨_, rfl⟩
            rw [htk] at R0 HTR
            have A3 := Lib.hid ((Below.refl wr.heap.size wr).alloc (Nat.le_refl _) (.cells #[.string y] 9))
            have R3 := Lib.hid (row_keep R0.out fun c hc => A3.out.block c (R0.out.lt c hc).2)
            have HQ3 := Lib.hid (show (i - (m + 1)) + 1 ≤ maxLen by have := HLT.out; have := HAL.out; unfold maxLen; omega)
            have HQ4 := Lib.hid (show ((i - (m + 1)) + 1) * 16 ≤ 140737488355328 by have := HLT.out; have := HAL.out; omega)
            obtain ⟨ti, i1, i2, i3, i4⟩ := info_parts (show (Tryd.prog.info? 9).map (fun i => (i.zero, i.size, i.bytes)) = some (some (.string ⟨#[]⟩), 1, 16) by kernel_rfl)
            clear hk hk0 hy hz htk
            go_wp2_with (at_builtin; refine wpList_append_own _ rfl _ _ 44 rfl w2.heap.size 9 ti (.string ⟨#[]⟩) 1 16 (by kernel_rfl) i1 i2 i3 i4 rfl (by decide) _ _ _ rfl R3.out ⟨wr.heap.size, 0, none⟩ 1 1 [.string y] rfl rfl (cells1_new wr y _) (cells1_one y) HQ3.out HQ4.out (sz_alloc HB.out.size _) ?_)
            intro u' w3 hown' hgr _
            obtain ⟨a', c', rfl⟩ : ∃ a' c', u' = .slice a' (i - (m + 1) + 1) c' := by
              rcases hown'.2 with ⟨_, h0⟩ | ⟨q, cp, cur, rfl, _⟩
              · omega
              · exact ⟨_, _, rfl⟩
            have B4 := Lib.hid (HB.out.trans ((A3.out.mono HB.out.size).grown hgr (by have := sz_alloc HB.out.size (.cells #[.string y] 9); exact this) (fun k hk => (R3.out.lt k hk).1)))
            have R4 := Lib.hid (show w3.ownsRow w2.heap.size 9 1 (.slice a' (i - m) c') (i - m) (((l.take i).reverse.take (i - m)).map Value.string) by
              rw [HTR.out, List.map_append, show i - m = i - (m + 1) + 1 by have := HK.out; omega]; exact hown')
            have hnm : i - (m + 1) + 1 = i - m := by have := HK.out; omega
            rw [hnm]
            clear hown' hgr hnm
            go_wp2_with fail
            go_roundw
            case rel => exact ⟨m, by have := HK.out; omega, by go_num, R4.out, ⟨a', c', rfl⟩, B4.out⟩
            case measure => simp [intOf]
          · obtain rfl : k = 0 := by omega
            have hz : (((0 : Nat) : Int) - 1) = -1 := rfl
            rw [hz]
            clear hk hk0 hz
            go_wp2_with fail
            go_ret2
            refine ⟨.slice ya (i - 0) yc, ?_, ?_, X2.out.trans (HB.out.mono X2.out.size)⟩
            · show Ending.returned (.tuple #[.slice ya (i - 0) yc, .bool true]) = Ending.returned (.tuple #[.slice ya (i - 0) yc, .bool (pathF F from_ to_).isSome])
              rw [HF.out]; rfl
            rw [HF.out, Option.getD_some]
            have hr := ROW.out
            have hlen : (l.take i).reverse.length = i := by have := HLT.out; simp; omega
            rw [Nat.sub_zero, List.take_of_length_le (by omega)] at hr
            refine strs_own (e := 9) (base := w2.heap.size) ?_
            rw [hlen]; exact hr
      · have t1 := ba_beq he
        have HE := Lib.hid he
        clear he
        go_wp2_with fail
        go_roundw
        case rel => exact ⟨i + 1, by have := HLT.out; omega, by go_num, fun j hj => if h : j = i then by subst h; rw [HX.out]; exact HE.out else HALL.out j (by omega), trivial⟩
        case measure => have := HLT.out; simp [intOf]; omega
    · obtain rfl : i = l.length := by omega
      have hlt' : ¬ (l.length : Int) < (l.length : Int) := by omega
      have HF := Lib.hid (show pathF F from_ to_ = none by rw [HPA.out, find_none HALL.out])
      clear hi hlt
      go_wp2_with fail
      go_ret2
      refine ⟨.slice none 0 0, ?_, ?_, X2.out⟩
      · show Ending.returned (.tuple #[.slice none 0 0, .bool false]) = Ending.returned (.tuple #[.slice none 0 0, .bool (pathF F from_ to_).isSome])
        rw [HF.out]; rfl
      rw [HF.out]
      exact ⟨none, 0, rfl, Or.inl rfl⟩
end Go.Proofs.YtegkhhegapnkpaaDoor
end
section
open Go Go.RowKit
namespace FF
open WW BB
theorem missF_snoc (F : Fo) (i : Nat) (hi : i < F.orph.length) : (F.orph.take (i + 1)).foldl (missStep F.orph) [] = missStep F.orph ((F.orph.take i).foldl (missStep F.orph) []) (F.orph.getD i i0) := by
  rw [List.take_add_one, List.getElem?_eq_getElem hi, List.foldl_append]
  simp [List.getD, List.getElem?_eq_getElem hi]
theorem miss_len (o : List It) : ∀ (l : List It) (out : List ByteArray), (l.foldl (missStep o) out).length ≤ out.length + l.length
  | [], out => by simp
  | x :: l, out => by
    rw [List.foldl_cons, List.length_cons]
    refine Nat.le_trans (miss_len o l _) ?_
    have : (missStep o out x).length ≤ out.length + 1 := by unfold missStep; split <;> simp
    omega
theorem any_take (out : List ByteArray) (p : ByteArray) (k : Nat) (hk : k < out.length) : (out.take (k + 1)).any (fun y => decide (y = p)) = ((out.take k).any (fun y => decide (y = p)) || decide (out.getD k ⟨#[]⟩ = p)) := by
  rw [List.take_add_one, List.getElem?_eq_getElem hk, List.any_append]
  simp [List.getD, List.getElem?_eq_getElem hk]
/-- the loop's state -/
structure MiSt (w0 : World) (g : Nat) (e : TypeId) (cs : List Value) (F : Fo) (i : Nat) (x : Value) (wr : World) : Prop where
  box : BoxAt w0 g cs wr
  row : wr.ownsRow (g + 1) e 1 x ((F.orph.take i).foldl (missStep F.orph) []).length (((F.orph.take i).foldl (missStep F.orph) []).map Value.string)
  size : g + 1 ≤ wr.heap.size
  shape : ∃ a c, x = .slice a ((F.orph.take i).foldl (missStep F.orph) []).length c
end FF
namespace Go.Proofs.YtegkhhegapnkpaaDoor
open FF JJ CC WW BB
set_option maxRecDepth 100000 in
set_option maxHeartbeats 8000000 in
theorem fmiss_any (F : Fo) (nv ov : Value) (w : World) (hv : FoAt w F nv ov) (hl : F.orph.length ≤ 1000) :
    Calls Tryd.prog 94 #[.agg #[.string F.root, .int .i64 F.height, nv, ov]] w fun e w' => ∃ u, e = .returned u ∧ StrsAt w' u (missF F) ∧ Below w.heap.size w w' := by
  obtain ⟨N, O, hN, hO, hn, ho⟩ := hv
  have HO := Lib.hid hO
  have HIO := Lib.hid ho
  have HOL := Lib.hid (show O.length = F.orph.length by rw [← hO, List.length_map])
  have HL := Lib.hid (show O.length ≤ 1000 by rw [← hO, List.length_map] at hl; exact hl)
  obtain ⟨na, nc, rfl⟩ := iv_shape hn
  obtain ⟨oa, oc, rfl⟩ := iv_shape ho
  clear hN hO hn ho hl
  obtain ⟨g, hg⟩ : ∃ g, w.heap.size = g := ⟨_, rfl⟩
  have HG := Lib.hid hg
  have X0 := Lib.hid (show BoxAt w w.heap.size [.string F.root, .int .i64 F.height, .slice na N.length nc, .slice oa O.length oc] (w.alloc (.cells #[.string F.root, .int .i64 F.height, .slice na N.length nc, .slice oa O.length oc] 54)) from box_mk w [.string F.root, .int .i64 F.height, .slice na N.length nc, .slice oa O.length oc] 54)
  go_enter Tryd.func94, Tryd.ntmps94
  go_wp2_with fail
  rw [hg] at X0
  generalize w.alloc (.cells #[.string F.root, .int .i64 F.height, .slice na N.length nc, .slice oa O.length oc] 54) = w0 at *
  clear hg
  go_loopw [3, 4] (fun x y wr => ∃ i : Nat, i ≤ O.length ∧ y = .int .i64 (i : Int) ∧ MiSt w g 9 [.string F.root, .int .i64 F.height, .slice na N.length nc, .slice oa O.length oc] F i x wr) (fun _ y _ => O.length - (intOf y).toNat)
  case atStart => exact ⟨0, Nat.zero_le _, rfl, X0.out, World.ownsRow_nil _ _ _ _, X0.out.lt, ⟨none, 0, rfl⟩⟩
  case round =>
    obtain ⟨i, hi, rfl, hst⟩ := hrel
    have HST := Lib.hid hst
    have i0' : (0 : Int) ≤ (i : Int) := by omega
    have ib : (i : Int) ≤ 1000 := by have := HL.out; omega
    have c3 := hst.box.cell 3 _ rfl
    obtain ⟨xa, xc, rfl⟩ := hst.shape
    have HLEN := Lib.hid (show ((F.orph.take i).foldl (missStep F.orph) []).length ≤ 1000 by
      have := miss_len F.orph (F.orph.take i) []
      have := HOL.out
      have := HL.out
      simp only [List.length_nil, List.length_take] at *
      omega)
    have hrow := hst.row
    obtain ⟨out, hout⟩ : ∃ out, (F.orph.take i).foldl (missStep F.orph) [] = out := ⟨_, rfl⟩
    have HOUT := Lib.hid hout
    rw [hout] at hrow HLEN ⊢
    have HROW := Lib.hid hrow
    clear hst hrow hout
    by_cases hlt : i < O.length
    · have hlt' : (i : Int) < (O.length : Int) := by omega
      have HLT := Lib.hid hlt
      have HSN := Lib.hid (missF_snoc F i (by rw [← HOL.out]; exact hlt))
      obtain ⟨ob, ooff, rfl, hbw, hcell⟩ : ∃ ob ooff, oa = some ⟨ob, ooff, none⟩ ∧ ob < w.heap.size ∧ _ := by
        obtain ⟨a9, c9, he, h9 | h9⟩ := HIO.out
        · rw [h9] at hlt; simp at hlt
        · injection he with e1 _ e3
          subst e1
          exact h9
      obtain ⟨_, _, _, _, p4, _, _⟩ := iv_cells HST.out.box.below hbw hcell i hlt
      obtain ⟨p, hp⟩ : ∃ p, parI (O.getD i v0).1.2 = p := ⟨_, rfl⟩
      rw [hp] at p4
      have HPP := Lib.hid (show parI (F.orph.getD i i0).2 = p by rw [← HO.out, map_getD O i hlt]; exact hp)
      obtain ⟨P, hP⟩ : ∃ P, atI F.orph p = P := ⟨_, rfl⟩
      have HP := Lib.hid hP
      obtain ⟨T0, hT0⟩ : ∃ T0, decide (0 ≤ P) = T0 := ⟨_, rfl⟩
      have HT0 := Lib.hid hT0
      clear hi hlt hbw hcell hp hP hT0
      go_wp2_with fail
      refine (fat_is O F.orph _ p P HO.out HP.out wr (HIO.out.later HST.out.box.below) HL.out).mono ?_
      rintro e w2 ⟨rfl, rfl⟩
      have hT0 := HT0.out
      go_wp2_with fail
      clear hT0 c3 p4
      go_loopw [6, 7] (fun x y wx => ∃ (k : Nat) (t : Bool), k ≤ out.length ∧ x = .bool t ∧ y = .int .i64 (k : Int) ∧ t = (T0 || (out.take k).any (fun y => decide (y = p))) ∧ wr = wx) (fun _ y _ => out.length - (intOf y).toNat)
      case atStart => exact ⟨0, T0, Nat.zero_le _, rfl, rfl, by simp, rfl⟩
      case round =>
        obtain ⟨k, t, hk, rfl, rfl, ht, rfl⟩ := hrel
        have HT := Lib.hid ht
        have k0 : (0 : Int) ≤ (k : Int) := by omega
        have kb : (k : Int) ≤ 1000 := by have := HLEN.out; omega
        clear ht
        by_cases hkl : k < out.length
        · have hkl' : (k : Int) < (out.length : Int) := by omega
          have HKL := Lib.hid hkl
          have HAT := Lib.hid (any_take out p k hkl)
          obtain ⟨rb, roff, rfl, hbw, hc⟩ := strs_cell (strs_own HROW.out) (Below.refl _ wr) k hkl
          obtain ⟨y, hy⟩ : ∃ y, out.getD k ⟨#[]⟩ = y := ⟨_, rfl⟩
          rw [hy] at hc
          have HYY := Lib.hid hy
          clear hk hkl hbw hy
          cases t with
          | true =>
            go_wp2_with fail
            go_roundw
            case rel => exact ⟨k + 1, true, by have := HKL.out; omega, rfl, by go_num, by rw [HAT.out, ← Bool.or_assoc, ← HT.out]; rfl, trivial⟩
            case measure => have := HKL.out; simp [intOf]; omega
          | false =>
            by_cases he : y = p
            · have t1 : (y.toList == p.toList) = true := by rw [he]; simp
              have HE := Lib.hid he
              clear he
              go_wp2_with fail
              go_roundw
              case rel => exact ⟨k + 1, true, by have := HKL.out; omega, rfl, by go_num, by rw [HAT.out, ← Bool.or_assoc, ← HT.out, HYY.out, HE.out]; simp, trivial⟩
              case measure => have := HKL.out; simp [intOf]; omega
            · have t1 := ba_beq he
              have HE := Lib.hid he
              clear he
              go_wp2_with fail
              go_roundw
              case rel => exact ⟨k + 1, false, by have := HKL.out; omega, rfl, by go_num, by rw [HAT.out, ← Bool.or_assoc, ← HT.out, HYY.out]; simpa using HE.out, trivial⟩
              case measure => have := HKL.out; simp [intOf]; omega
        · obtain rfl : k = out.length := by omega
          have hkl' : ¬ (out.length : Int) < (out.length : Int) := by omega
          have HTT := Lib.hid (show t = (decide (0 ≤ P) || out.any (fun y => decide (y = p))) by rw [HT.out, List.take_length, HT0.out])
          clear hk hkl
          cases t with
          | true =>
            have HEQ := Lib.hid (show (F.orph.take (i + 1)).foldl (missStep F.orph) [] = out by
              rw [HSN.out, HOUT.out]
              unfold missStep
              rw [HPP.out, HP.out, if_pos]
              have h := HTT.out
              by_cases h0 : 0 ≤ P
              · exact Or.inl h0
              · rw [decide_eq_false h0, Bool.false_or] at h; exact Or.inr h.symm)
            go_wp2_with fail
            go_roundw
            case rel =>
              refine ⟨i + 1, by have := HLT.out; omega, by go_num, HST.out.box, ?_, HST.out.size, ⟨xa, xc, by rw [HEQ.out]⟩⟩
              rw [HEQ.out]; exact HROW.out
            case measure => have := HLT.out; simp [intOf]; omega
          | false =>
            have HEQ := Lib.hid (show (F.orph.take (i + 1)).foldl (missStep F.orph) [] = out ++ [p] by
              rw [HSN.out, HOUT.out]
              unfold missStep
              rw [HPP.out, HP.out, if_neg]
              have h := HTT.out
              rintro (h0 | h0)
              · rw [decide_eq_true h0] at h; cases h
              · rw [h0, Bool.or_true] at h; cases h)
            have A3 := Lib.hid ((Below.refl wr.heap.size wr).alloc (Nat.le_refl _) (.cells #[.string p] 9))
            have R3 := Lib.hid (row_keep HROW.out fun c hc => A3.out.block c (HROW.out.lt c hc).2)
            have HQ3 := Lib.hid (show out.length + 1 ≤ maxLen by have := HLEN.out; unfold maxLen; omega)
            have HQ4 := Lib.hid (show (out.length + 1) * 16 ≤ 140737488355328 by have := HLEN.out; omega)
            have HZ := Lib.hid HST.out.size
            obtain ⟨ti, i1, i2, i3, i4⟩ := info_parts (show (Tryd.prog.info? 9).map (fun i => (i.zero, i.size, i.bytes)) = some (some (.string ⟨#[]⟩), 1, 16) by kernel_rfl)
            go_wp2_with (at_builtin; refine wpList_append_own _ rfl _ _ 44 rfl (g + 1) 9 ti (.string ⟨#[]⟩) 1 16 (by kernel_rfl) i1 i2 i3 i4 rfl (by decide) _ _ _ rfl R3.out ⟨wr.heap.size, 0, none⟩ 1 1 [.string p] rfl rfl (cells1_new wr p _) (cells1_one p) HQ3.out HQ4.out (sz_alloc HZ.out _) ?_)
            intro u' w3 hown' hgr _
            obtain ⟨a', c', rfl⟩ : ∃ a' c', u' = .slice a' (out.length + 1) c' := by
              rcases hown'.2 with ⟨_, h0⟩ | ⟨q, cp, cur, rfl, _⟩
              · omega
              · exact ⟨_, _, rfl⟩
            have BX := Lib.hid ((Below.refl (g + 1) (wr.alloc (.cells #[.string p] 9))).grown hgr (sz_alloc HZ.out _) (fun k hk => (R3.out.lt k hk).1))
            have X3 := Lib.hid (HST.out.box.on A3.out)
            have X4 := Lib.hid (show BoxAt w g [.string F.root, .int .i64 F.height, .slice na N.length nc, .slice (some ⟨ob, ooff, none⟩) O.length oc] w3 from
              ⟨X3.out.below.trans (BX.out.mono (by rw [HG.out]; omega)), Nat.lt_of_lt_of_le X3.out.lt BX.out.size, fun i u hu => (BX.out.cell (p := ⟨g, i, none⟩) (Nat.lt_succ_self g)).trans (X3.out.cell i u hu)⟩)
            have Z4 := Lib.hid (Nat.le_trans (sz_alloc HZ.out (.cells #[.string p] 9)) BX.out.size)
            have R4 := Lib.hid (show w3.ownsRow (g + 1) 9 1 (.slice a' (out.length + 1) c') (out ++ [p]).length ((out ++ [p]).map Value.string) by
              rw [List.length_append, List.map_append]; exact hown')
            clear hown' hgr
            go_wp2_with fail
            go_roundw
            case rel =>
              refine ⟨i + 1, by have := HLT.out; omega, by go_num, X4.out, ?_, Z4.out, ⟨a', c', by rw [HEQ.out, List.length_append]; rfl⟩⟩
              rw [HEQ.out]; exact R4.out
            case measure => have := HLT.out; simp [intOf]; omega
    · obtain rfl : i = O.length := by omega
      have hlt' : ¬ (O.length : Int) < (O.length : Int) := by omega
      have HF := Lib.hid (show missF F = out by rw [← HOUT.out, HOL.out, List.take_length]; rfl)
      clear hi hlt
      go_wp2_with fail
      go_ret
      refine ⟨_, rfl, ?_, HST.out.box.below⟩
      rw [HF.out]; exact strs_own HROW.out
end Go.Proofs.YtegkhhegapnkpaaDoor
end
