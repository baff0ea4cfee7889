/-
  The laws of layer 10, of the code that landed.
-/
import Derived.Test.YtnahebfhhcebpaaGreatKUIdx
import Derived.Test.YtnahebfhhcebpaaGreatKTSw
section
open Go Go.RowKit
namespace TT
open SS RR FF WW BB
/-- an append whose run is known -/
theorem wpl_append_run {P : Program} {w w' : World} {ops : Array Oper} {rest : List Oper} {o : Oper} {a : Act} {Q : Exit → Act → World → Prop} {v' : Value} (hgd : o.guard = none) (s x : Operand) (t : TypeId)
    (ho : o.op = .call { callee := .builtin .append, args := #[s, x], argTypes := #[t, t] }) (hr : (Builtin.append_ #[t, t] o.type #[a.eval s, a.eval x]).run P w = .ok v' w') (h : wpList P ops Q rest (a.put o.dst v') w') : wpList P ops Q (o :: rest) a w := by
  refine wpList_plain hgd fun K hK => ?_
  unfold Oper.wp execOp
  simp only [ho, resolve, invoke, builtin, Sem.run_bind, Sem.run_pure, Result.andThen_ok, List.map_toArray, List.map_cons, List.map_nil, hr]
  exact hK _ _ h
/-- a row of strings is appended to a row of the call's own -/
theorem app_rows {P : Program} {w : World} (t e : TypeId) (i : TypeInfo) (z : Value) (ht : P.underlying t = some (.slice e)) (hi : P.info? e = some i) (hz : i.zero = some z) (hsize : i.size = 1) (hby : i.bytes = 16) (hzs : z.cells.size = 1)
    {v u : Value} {n j B : Nat} {xs news : List Value} (hv : w.ownsRow 0 e 1 v n xs) (hu : w.ownsRow B e 1 u j news) (h1 : ∀ y ∈ news, y.oneCell' = true) (hl : n + j ≤ 10000) :
    ∃ v' w', (Builtin.append_ #[t, t] t #[v, u]).run P w = .ok v' w' ∧ w'.ownsRow 0 e 1 v' (n + j) (xs ++ news) ∧ w.grownBy w' v.ownBlock ∧ ∀ c, v'.ownBlock = some c → v.ownBlock = some c ∨ w.heap.size ≤ c := by
  rcases hu.2 with ⟨rfl, rfl⟩ | ⟨g, cap, cur, rfl, _⟩
  · have hn : news = [] := List.eq_nil_of_length_eq_zero (by simpa using hu.1)
    subst hn
    exact ⟨v, w, run_append_none_any (P := P) (w := w) 0 t t e i 1 ht hi v n xs hv 0, by simpa using hv, ⟨rfl, rfl, rfl, Nat.le_refl _, fun _ _ _ => rfl⟩, fun c hc => Or.inl hc⟩
  · obtain ⟨v', w', hr, ho, hg, _, hloc⟩ := run_append_own_at (P := P) (w := w) 0 t t e i z 1 16 ht hi hz hsize hby hzs (by decide) v n xs hv ⟨g, 0, none⟩ j cap news (by have := hu.1; omega) (hu.cells (g := g) rfl) h1 (by unfold maxLen; omega) (by omega) (Nat.zero_le _)
    exact ⟨v', w', hr, ho, hg, fun c hc => hloc.elim (fun h => Or.inl (h ▸ hc)) fun h => by rw [h] at hc; injection hc with hc; exact Or.inr (by omega)⟩
/-- a memory with other cells -/
theorem MemIs.put {tS : TypeId} {O : Nat → Prop} {w w1 : World} {m g : Nat} {st st' : MemT} {v v' : Value} (h : MemIs tS O w m g st v) (hB : Blk w1 m 4 (rowL [.pointer (some ⟨g, 0, none⟩), .int .i64 st'.1.1, .int .i64 st'.1.2, v'])) (hr : w1.ownsRow 0 tS 1 v' st'.2.length ((st'.2.map rcB).map Value.string))
    (hlo : ∀ c, v'.ownBlock = some c → v.ownBlock = some c ∨ w.heap.size ≤ c) : MemIs tS (fun b => b = m ∨ v'.ownBlock = some b) w1 m g st' v' :=
  ⟨hB, hr, fun _ => Iff.rfl, fun e => (hlo m e).elim h.ne fun h2 => by have := h.blk.lt; omega⟩
theorem recsOf_len {st x : StT} {l : List BlockD} : (recsOf st x l).length ≤ l.length + 1 := by
  unfold recsOf
  rw [List.length_append, List.length_map]
  split
  · exact Nat.le_succ _
  · exact Nat.le_refl _
end TT
namespace Go.Proofs.YtnahebfhhcebpaaGreat
open TT SS RR FF JJ CC WW BB
set_option maxRecDepth 100000 in
set_option maxHeartbeats 4000000 in
theorem tsclone_row (l : List ByteArray) (v : Value) (w : World) (h : StrsAt w v l) (hs : l.length ≤ 1000) :
    Calls Tryz.prog 30 #[v] w fun e w' => ∃ v', e = .returned v' ∧ w'.ownsRow w.heap.size 9 1 v' l.length (l.map Value.string) ∧ Below w.heap.size w w' := by
  have HS := Lib.hid hs
  obtain ⟨a0, cap, rfl, hx⟩ := h
  have q22 : ∀ (w : World) (a : Option Addr) (n c n' c' : Nat), (binOp .eql 58 (.slice a n c) (.slice none n' c')).run Tryz.prog w = .ok (.bool a.isNone) w := fun w a n c n' c' => Lib.run_eql_slice_nil w _ 9 a n c n' c' (by kernel_rfl)
  obtain ⟨i0, hi, hz0, hz1, hz2⟩ : ∃ i, Tryz.prog.info? 9 = some i ∧ i.zero = some (.string ⟨#[]⟩) ∧ i.size = 1 ∧ i.bytes = 16 := by
    have h : (Tryz.prog.info? 9).map (fun i => (i.zero, i.size, i.bytes)) = some (some (.string ⟨#[]⟩), 1, 16) := by kernel_rfl
    rcases hi : Tryz.prog.info? 9 with _ | i
    · rw [hi] at h; cases h
    · rw [hi] at h
      simp only [Option.map_some, Option.some.injEq, Prod.mk.injEq] at h
      exact ⟨i, rfl, h.1, h.2.1, h.2.2⟩
  have HI := Lib.hid hi
  have HZ := Lib.hid (And.intro hz0 (And.intro hz1 hz2))
  have HX := Lib.hid hx
  clear hs hx hi hz0 hz1 hz2
  rcases a0 with _ | ad
  · have hL : l = [] := by
      rcases HX.out with h | ⟨b, o, h, _⟩
      · exact h
      · cases h
    subst hL
    go_enter Tryz.func30, Tryz.ntmps30
    go_wp2_with fail
    go_ret
    exact ⟨_, rfl, World.ownsRow_nil _ _ _ _, Below.refl _ _⟩
  · have hread : ∀ j u, (l.map Value.string)[j]? = some u → w.cell? (ad.add j) = some u := fun j u hj => by
      rcases HX.out with h | ⟨b, o, h, hb, hc⟩
      · subst h; simp at hj
      · injection h with h
        subst h
        have hlt : j < l.length := by have := (List.getElem?_eq_some_iff.1 hj).1; simpa using this
        have e : (⟨b, o, none⟩ : Addr).add j = ⟨b, o + j, none⟩ := by unfold Addr.add; split <;> simp [*]
        rw [e, hc j hlt, ← hj]
        simp [List.getD, List.getElem?_eq_getElem hlt]
    have HR := Lib.hid hread
    clear hread
    go_enter Tryz.func30, Tryz.ntmps30
    go_wp2_with (at_builtin; refine wpList_append_own _ rfl _ _ 58 rfl w.heap.size 9 i0 (.string ⟨#[]⟩) 1 16 (by kernel_rfl) HI.out HZ.out.1 HZ.out.2.1 HZ.out.2.2 rfl (by decide) _ _ _ rfl (World.ownsRow_made w #[] 0 (Nat.le_refl _) (Nat.zero_le _) rfl) ad l.length cap (l.map Value.string) rfl ?qc1 ?qc2 ?qc3 ?qc4 ?qc5 ?qc6 ?_)
    case qc1 => simp
    case qc2 => intro j u hj; exact Lib.cell?_alloc_some _ (HR.out j u hj)
    case qc3 => intro u hu; obtain ⟨x, _, rfl⟩ := List.mem_map.1 hu; rfl
    case qc4 => have := HS.out; unfold maxLen; omega
    case qc5 => have := HS.out; omega
    case qc6 => simp
    intro v' w1 hown hgrow hnil
    have hown : w1.ownsRow w.heap.size 9 1 v' l.length (l.map Value.string) := by simpa using hown
    have hG := Lib.hid (((Below.refl _ w).alloc (Nat.le_refl _) _).grown hgrow (by simp) (by intro k hk; simp [Value.ownBlock] at hk; omega))
    obtain ⟨va, vc, rfl⟩ := own_sl6 hown
    have HO := Lib.hid hown
    clear hown hgrow hnil
    go_wp2_with fail
    go_ret
    exact ⟨_, rfl, HO.out, hG.out⟩
section
variable (O O1 A : Nat → Prop) (w : World) (m g : Nat) (st : MemT) (s : Lg) (x : StT) (v : Value) (L : List Bv)
set_option maxRecDepth 100000 in
set_option maxHeartbeats 16000000 in
theorem save10 (h : At9 O w g s) (hm : At10 9 O1 w m g st) (hd : ∀ b, O1 b → ¬ O b) (hz : sizeL s ≤ 900000) (hok : OkT st) (hv : Dep A w (fun w' => BvAt w' v L)) (hs : ∀ y ∈ L, SmallT y.1 ∧ MemI y.1) (hl : L.length ≤ 5) :
    Calls Tryz.prog 11 #[.pointer (some ⟨m, 0, none⟩), .agg #[.int .i64 x.1, .int .i64 x.2], v] w (SaveAns (At10 9) O O1 w m g st s x (L.map Prod.fst)) := by
  obtain ⟨vb, hm⟩ := hm
  obtain ⟨x1, x2⟩ := x
  obtain ⟨⟨s1, s2⟩, bl⟩ := st
  have HO := Lib.hid h
  have HM := Lib.hid hm
  have HD := Lib.hid hd
  have HZ := Lib.hid hz
  have HV := Lib.hid hv.now
  have HS := Lib.hid (fun y hy => (hs y hy).1)
  have HL := Lib.hid hl
  have HSL := Lib.hid hok.2.2
  obtain ⟨a0, cap, rfl⟩ := bv_shape hv.now
  clear h hm hd hz hv hs hl hok
  obtain ⟨n, hn⟩ : ∃ n, w.heap.size = n := ⟨_, rfl⟩
  have HN := Lib.hid hn
  have X1 := Lib.hid ((Below.refl w.heap.size w).alloc (Nat.le_refl _) (.cells #[.int .i64 x1, .int .i64 x2] 33))
  have Q1 := Lib.hid (show Blk (w.alloc (.cells #[.int .i64 x1, .int .i64 x2] 33)) n 2 (rowL [.int .i64 x1, .int .i64 x2]) by rw [← hn]; exact Blk.new' rfl (row2_ _ _))
  obtain ⟨w1, hw1⟩ : ∃ w1, w.alloc (.cells #[.int .i64 x1, .int .i64 x2] 33) = w1 := ⟨_, rfl⟩
  have HW1 := Lib.hid hw1
  rw [hw1] at X1 Q1
  clear hw1 hn
  obtain ⟨R, hR⟩ : ∃ R, decide (rightS (x1, x2)) = R := ⟨_, rfl⟩
  obtain ⟨B, hB⟩ : ∃ B, decide (∀ y ∈ L, blockOk y.1) = B := ⟨_, rfl⟩
  have HR := Lib.hid hR
  have HBX := Lib.hid hB
  clear hR hB
  have HNO := Lib.hid (show (R = false ∨ B = false) → ∀ e w', e = Ending.returned (.int .i64 2) → Below w.heap.size w w' → SaveAns (At10 9) O O1 w m g ((s1, s2), bl) s (x1, x2) (L.map Prod.fst) e w' from fun hno e w' he hb => by
    unfold SaveAns
    rw [if_neg]
    · exact ⟨he, hb⟩
    · rintro ⟨k1, k2⟩
      rcases hno with h | h
      · rw [← HR.out] at h; exact absurd k1 (of_decide_eq_false h)
      · rw [← HBX.out] at h; exact absurd (fun y hy => k2 y.1 (List.mem_map.2 ⟨y, hy, rfl⟩)) (of_decide_eq_false h))
  go_enter Tryz.func11, Tryz.ntmps11
  go_upto_region 1 with fail
  rw [HW1.out, HN.out]
  obtain ⟨q0, q1⟩ := cells2 Q1.out
  go_wp2_with fail
  refine (readable_any x1 x2 w1).mono ?_
  rintro e w2 ⟨rfl, hb2⟩
  rw [HR.out]
  have X2 := Lib.hid (X1.out.trans (hb2.mono X1.out.size))
  have Q2 := Lib.hid (Q1.out.below hb2 Q1.out.lt)
  clear hb2 q0 q1
  cases R with
  | false =>
    go_wp2_with fail
    go_ret
    exact HNO.out (Or.inl (by simp)) _ _ rfl X2.out
  | true =>
  go_wp2_with fail
  refine (allright_any L _ w2 (HV.out.later X2.out) (by have := HL.out; omega) HS.out B HBX.out).mono ?_
  rintro e w3 ⟨rfl, hb3⟩
  have X3 := Lib.hid (X2.out.trans (hb3.mono X2.out.size))
  have Q3 := Lib.hid (Q2.out.below hb3 Q2.out.lt)
  clear hb3
  cases B with
  | false =>
    go_wp2_with fail
    go_ret
    exact HNO.out (Or.inr (by simp)) _ _ rfl X3.out
  | true =>
  have HOKB := Lib.hid (show rightS (x1, x2) ∧ ∀ b ∈ L.map Prod.fst, blockOk b from ⟨of_decide_eq_true HR.out, fun b hb => by
    obtain ⟨y, hy, rfl⟩ := List.mem_map.1 hb
    exact of_decide_eq_true HBX.out y hy⟩)
  have HYES := Lib.hid (show ∀ e w', e = .returned (.int .i64 (putL s (recsOf (s1, s2) (x1, x2) (L.map Prod.fst))).2) →
      (if (putL s (recsOf (s1, s2) (x1, x2) (L.map Prod.fst))).2 = 0 then NextT (At10 9) O O1 w m g (upS (s1, s2) (x1, x2), bl ++ L.map Prod.fst) (putL s (recsOf (s1, s2) (x1, x2) (L.map Prod.fst))).1 w' else LostT O O1 w g (putL s (recsOf (s1, s2) (x1, x2) (L.map Prod.fst))).1 w') →
      SaveAns (At10 9) O O1 w m g ((s1, s2), bl) s (x1, x2) (L.map Prod.fst) e w' from fun e w' h1 h2 => by
    unfold SaveAns
    rw [if_pos HOKB.out]
    exact ⟨h1, h2⟩)
  have HFIT := Lib.hid (show ∀ r ∈ recsOf (s1, s2) (x1, x2) (L.map Prod.fst), r.size ≤ 4000 from fun r hr => by
    have := recs_fit (st := (s1, s2)) (x := (x1, x2)) HOKB.out.2 r hr
    unfold fitR at this; omega)
  have HLEN := Lib.hid (show (recsOf (s1, s2) (x1, x2) (L.map Prod.fst)).length ≤ 20 by
    have := recsOf_len (st := (s1, s2)) (x := (x1, x2)) (l := L.map Prod.fst)
    rw [List.length_map] at this
    have := HL.out; omega)
  obtain ⟨rs, hrs⟩ : ∃ rs, recsOf (s1, s2) (x1, x2) (L.map Prod.fst) = rs := ⟨_, rfl⟩
  rw [hrs] at HYES HFIT HLEN
  have HRS := Lib.hid (show (L.map Prod.fst).map rcB ++ (if (x1, x2) = (s1, s2) then [] else [rcS (x1, x2)]) = rs from hrs)
  clear hrs HNO
  go_wp2_with fail
  refine (blockrecs_any L _ w3 (HV.out.later X3.out) (fun y hy => (HS.out y hy).d) (by have := HL.out; omega)).mono ?_
  rintro e w4 ⟨u, rfl, hu, hb4⟩
  rw [recsV_of] at hu
  have HU := Lib.hid hu
  have X4 := Lib.hid (X3.out.trans (hb4.mono X3.out.size))
  have Q4 := Lib.hid (Q3.out.below hb4 Q3.out.lt)
  obtain ⟨ua, uc, rfl⟩ := own_sl6 hu
  have HSA := Lib.hid (strs_row hu)
  clear hu hb4
  go_wp2_with fail
  refine (tsclone_row ((L.map Prod.fst).map rcB) _ w4 HSA.out (by rw [List.length_map, List.length_map]; have := HL.out; omega)).mono ?_
  rintro e w5 ⟨u2, rfl, hu2, hb5⟩
  have HU2 := Lib.hid (show w5.ownsRow w4.heap.size 9 1 u2 L.length (((L.map Prod.fst).map rcB).map Value.string) by
    have e : ((L.map Prod.fst).map rcB).length = L.length := by rw [List.length_map, List.length_map]
    rw [e] at hu2; exact hu2)
  have B5 := Lib.hid hb5
  have X5 := Lib.hid (X4.out.trans (hb5.mono X4.out.size))
  have Q5 := Lib.hid (Q4.out.below hb5 Q4.out.lt)
  have HM5 := Lib.hid (HM.out.on X5.out)
  obtain ⟨u2a, u2c, hu2s⟩ := own_sl6 HU2.out
  subst hu2s
  clear hu2 hb5
  go_upto_region 5 with fail
  have HSC := Lib.hid (fun (wx : World) (hb : Below w5.heap.size w5 wx) => And.intro (cells2 (Q5.out.below hb Q5.out.lt)) (HM5.out.on hb).cells)
  refine plan_abs (fun wx => Below w5.heap.size w5 wx) [(true, 0), (true, 1), (true, 2), (true, 3), (true, 4), (true, 5)] (by kernel_rfl) (by kernel_rfl) (fun _ _ d _ _ h => by cases d <;> exact h) fun w6 hs6 => ⟨hs6.below _, ?_⟩
  have Y6 := Lib.hid (show Below w5.heap.size w5 w6 from hs6.below _)
  clear hs6
  iterate 5 (refine pl_run _ ?_ rfl rfl ?_ ?_; rotate_left; (focus (intro w' hS; obtain ⟨⟨d0, d1⟩, c0, c1, c2, c3⟩ := HSC.out w' hS; go_simp; exact rfl)); simp only [Act.put, List.setIfInBounds_toArray, List.set_cons_zero, List.set_cons_succ, List.getElem_toArray, List.getElem_cons_zero, List.getElem_cons_succ])
  have HU6 := Lib.hid (row_keep HU2.out fun c hc => Y6.out.block c (HU2.out.lt c hc).2)
  have B6 := Lib.hid (B5.out.trans (Y6.out.mono B5.out.size))
  obtain ⟨D, hD⟩ : ∃ D, decide (¬ (x1 = s1 ∧ x2 = s2)) = D := ⟨_, rfl⟩
  have HDD := Lib.hid hD
  refine pl_run _ (.bool D) rfl rfl (fun w' hS => ?_) ?_
  · rw [← hD]
    by_cases e1 : x1 = s1
    · by_cases e2 : x2 = s2
      · subst e1 e2
        go_simp
      · subst e1
        go_simp
    · go_simp
  simp only [Act.put, List.setIfInBounds_toArray, List.set_cons_zero, List.set_cons_succ, List.getElem_toArray, List.getElem_cons_zero, List.getElem_cons_succ]
  clear hD
  refine pl_end ?_
  go_upto_if 27 with fail
  go_cut [8] from 28 to 32 (fun s8 wx => ∃ a8 c8, s8 = .slice a8 rs.length c8 ∧ wx.ownsRow w4.heap.size 9 1 (.slice a8 rs.length c8) rs.length (rs.map Value.string) ∧ Below w4.heap.size w4 wx)
  case first =>
    cases D with
    | false =>
      have HE := Lib.hid (show (L.map Prod.fst).map rcB = rs by
        have := of_decide_eq_false HDD.out
        rw [← HRS.out, if_pos, List.append_nil]
        by_cases e1 : x1 = s1
        · by_cases e2 : x2 = s2
          · rw [e1, e2]
          · exact absurd (fun h => e2 h.2) this
        · exact absurd (fun h => e1 h.1) this)
      have HEL := Lib.hid (show L.length = rs.length by rw [← HE.out, List.length_map, List.length_map])
      go_wp2_with fail
      go_meet
      refine ⟨u2a, u2c, by rw [HEL.out], ?_, B6.out⟩
      have := HU6.out
      rw [HE.out, HEL.out] at this
      exact this
    | true =>
      have HE := Lib.hid (show (L.map Prod.fst).map rcB ++ [rcS (x1, x2)] = rs by
        have := of_decide_eq_true HDD.out
        rw [← HRS.out, if_neg]
        intro h; injection h with h1 h2; exact this ⟨h1, h2⟩)
      have HEL := Lib.hid (show L.length + 1 = rs.length by rw [← HE.out, List.length_append, List.length_map, List.length_map]; rfl)
      obtain ⟨⟨d0, d1⟩, _⟩ := HSC.out w6 Y6.out
      go_wp2_with fail
      refine (record_any x1 x2 w6).mono ?_
      rintro e w7 ⟨rfl, hb7⟩
      have HU7 := Lib.hid (row_keep HU6.out fun c hc => hb7.block c (HU6.out.lt c hc).2)
      have B7 := Lib.hid (B6.out.trans (hb7.mono B6.out.size))
      obtain ⟨r, hr⟩ : ∃ r, rcS (x1, x2) = r := ⟨_, rfl⟩
      rw [hr]
      have HRR := Lib.hid hr
      obtain ⟨i0, hi0, hz0, hz1, hz2⟩ := info_parts info_str10
      have HI := Lib.hid hi0
      have HZZ := Lib.hid (And.intro hz0 (And.intro hz1 hz2))
      clear hb7 hr hi0 hz0 hz1 hz2 d0 d1
      go_wp2_with (at_builtin; refine wpList_append_own _ rfl _ _ 58 rfl w4.heap.size 9 i0 (.string ⟨#[]⟩) 1 16 (by kernel_rfl) HI.out HZZ.out.1 HZZ.out.2.1 HZZ.out.2.2 rfl (by decide) _ _ _ rfl (HU7.out.alloc _) ⟨w7.heap.size, 0, none⟩ 1 1 [.string r] rfl ?qc1 ?qc2 ?qc3 ?qc4 ?qc5 ?qc6 ?_)
      case qc1 => rfl
      case qc2 => exact cell_one_new _ _ _
      case qc3 => simp [Value.oneCell']
      case qc4 => have := HL.out; unfold maxLen; omega
      case qc5 => have := HL.out; omega
      case qc6 => have := B7.out.size; simp; omega
      intro v' w8 hown hgrow hnil
      obtain ⟨va, vc, rfl⟩ := own_sl6 hown
      have HOW := Lib.hid hown
      have B8 := Lib.hid ((B7.out.alloc B7.out.size _).grown hgrow (by have := B7.out.size; simp; omega) (fun k hk => (HU7.out.lt k hk).1))
      clear hown hgrow hnil
      go_wp2_with fail
      go_meet
      refine ⟨va, vc, by rw [HEL.out], ?_, B8.out⟩
      have e : rs.map Value.string = ((L.map Prod.fst).map rcB).map Value.string ++ [.string r] := by rw [← HE.out, List.map_append, HRR.out]; rfl
      have h2 := HOW.out
      rw [HEL.out] at h2
      rw [e]
      simpa [List.map_map] using h2
  case rest =>
    obtain ⟨a8, c8, rfl, hrow, hbc⟩ := hcut
    have HROW := Lib.hid hrow
    have BC := Lib.hid hbc
    clear hrow hbc
    have XC := Lib.hid (X4.out.trans (BC.out.mono X4.out.size))
    have QC := Lib.hid (Q4.out.below BC.out Q4.out.lt)
    have UC := Lib.hid (row_keep HU.out fun c hc => BC.out.block c (HU.out.lt c hc).2)
    have HMC := Lib.hid (HM.out.on XC.out)
    have HOL := Lib.hid (fun b (hb : O b) => at9_lt HO.out b hb)
    have HZ4 := Lib.hid (show w.heap.size ≤ w4.heap.size from X4.out.size)
    have HZC := Lib.hid (show w.heap.size ≤ wc.heap.size from XC.out.size)
    have HMO := Lib.hid (show O1 m ∧ ¬ O m ∧ m < w.heap.size from ⟨(HM.out.own m).2 (.inl rfl), HD.out m ((HM.out.own m).2 (.inl rfl)), HM.out.blk.lt⟩)
    have HVO := Lib.hid (show ∀ b, vb.ownBlock = some b → O1 b ∧ ¬ O b ∧ b < w.heap.size from fun b hb => ⟨(HM.out.own b).2 (.inr hb), HD.out b ((HM.out.own b).2 (.inr hb)), (HM.out.row.lt b hb).2⟩)
    have HWR := Lib.hid (recwrite_any O O1 wc m g ((s1, s2), bl) s vb rs (.slice a8 rs.length c8) (fun b => w4.heap.size ≤ b) (at9_keep HO.out (Keeps.of XC.out)) HMC.out HMO.out.2.1 (strsin_own HROW.out) (fun b hb ho => by have := HOL.out b ho; have := HZ4.out; omega) HFIT.out HLEN.out HZ.out)
    obtain ⟨P, hP⟩ : ∃ P, putL s rs = P := ⟨_, rfl⟩
    rw [hP] at HWR HYES
    obtain ⟨PL, PE⟩ := P
    simp only at HWR HYES
    clear hP
    go_wp2_with fail
    refine HWR.out.mono ?_
    rintro e w6 ⟨rfl, O', h6, hk6, ho6⟩
    have H6 := Lib.hid h6
    have K6 := Lib.hid hk6
    have HO6 := Lib.hid (show ∀ b, O' b → O b ∨ w.heap.size ≤ b from fun b hb => (ho6 b hb).imp id fun h => by have := HZC.out; omega)
    have HM6O := Lib.hid (show ¬ O' m from fun h => (ho6 m h).elim HMO.out.2.1 fun h => by have := HMO.out; have := HZC.out; omega)
    have HV6O := Lib.hid (show ∀ b, vb.ownBlock = some b → ¬ O' b from fun b hb h => (ho6 b h).elim (HVO.out b hb).2.1 fun h => by have := HVO.out b hb; have := HZC.out; omega)
    clear h6 hk6 ho6 HWR
    by_cases he : PE = 0
    · subst he
      have HM6 := Lib.hid (HMC.out.keep (K6.out.sub fun b hb _ => HD.out b hb))
      have HNO := Lib.hid (show ¬ O n from fun h => by have := HOL.out n h; have := HN.out; omega)
      have Q6 := Lib.hid (QC.out.of_heap (K6.out.block n HNO.out QC.out.lt))
      have HZ3 := Lib.hid (show w.heap.size ≤ w3.heap.size from X3.out.size)
      have U6 := Lib.hid (row_keep UC.out fun c hc => K6.out.block c (fun ho => by have := HOL.out c ho; have := (UC.out.lt c hc).1; have := HZ3.out; omega) (UC.out.lt c hc).2)
      have HMN := Lib.hid (show m ≠ n from by have := HMO.out; have := HN.out; omega)
      go_upto_region 10 with fail
      have HSD := Lib.hid (fun (wx : World) (hk : wx.heap[m]? = w6.heap[m]? ∧ wx.heap[n]? = w6.heap[n]?) => And.intro (cells4 (HM6.out.blk.of_heap hk.1)) (cells2 (Q6.out.of_heap hk.2)))
      refine planE_abs (fun wx => wx.heap[m]? = w6.heap[m]? ∧ wx.heap[n]? = w6.heap[n]?) 9 [(true, 0), (true, 1), (true, 2), (true, 3), (true, 4), (true, 5), (false, 6), (false, 7), (false, 8), (false, 9)] (by kernel_rfl) (by kernel_rfl) (fun _ _ d _ _ h => by cases d <;> exact h) fun w7 hs7 => ⟨by rw [hs7.heap]; exact ⟨rfl, rfl⟩, ?_⟩
      have Y7 := Lib.hid (show Below w6.heap.size w6 w7 from hs7.below _)
      clear hs7
      iterate 6 (refine pe_run _ ?_ rfl rfl ?_ ?_; rotate_left; (focus (intro w' hS; obtain ⟨⟨c0, c1, c2, c3⟩, d0, d1⟩ := HSD.out w' hS; go_simp; exact rfl)); simp only [Act.put, List.setIfInBounds_toArray, List.set_cons_zero, List.set_cons_succ, List.getElem_toArray, List.getElem_cons_zero, List.getElem_cons_succ])
      obtain ⟨U, hU⟩ : ∃ U, upS (s1, s2) (x1, x2) = U := ⟨_, rfl⟩
      rw [hU] at HYES
      refine pe_call (R := fun u w' => u = .agg #[.int .i64 U.1, .int .i64 U.2] ∧ Below w7.heap.size w7 w') _ rfl rfl (by go_simp) ((greatest_any (s1, s2) (x1, x2) w7).mono fun e w' h => ⟨_, h.1, by rw [hU], h.2⟩) (fun u w' h => by
        have hb := Y7.out.trans (h.2.mono Y7.out.size)
        exact ⟨hb.block m HM6.out.blk.lt, hb.block n Q6.out.lt⟩) fun u w8 hr => ?_
      obtain ⟨rfl, hb8⟩ := hr
      have Y8 := Lib.hid (Y7.out.trans (hb8.mono Y7.out.size))
      have HM8 := Lib.hid (HM6.out.on Y8.out)
      have U8 := Lib.hid (row_keep U6.out fun c hc => Y8.out.block c (U6.out.lt c hc).2)
      have S8 := Lib.hid (show w8.heap[m]? = w6.heap[m]? ∧ w8.heap[n]? = w6.heap[n]? from ⟨Y8.out.block m HM6.out.blk.lt, Y8.out.block n Q6.out.lt⟩)
      clear hb8 hU
      simp only [Act.put, List.setIfInBounds_toArray, List.set_cons_zero, List.set_cons_succ, List.getElem_toArray, List.getElem_cons_zero, List.getElem_cons_succ]
      refine pe_value (w' := w8) _ (.pointer (some ⟨m, 0, none⟩)) rfl rfl (by go_simp) S8.out ?_
      simp only [Act.put, List.setIfInBounds_toArray, List.set_cons_zero, List.set_cons_succ, List.getElem_toArray, List.getElem_cons_zero, List.getElem_cons_succ]
      refine pe_value (w' := w8) _ (.pointer (some ⟨m, 1, none⟩)) rfl rfl (by go_simp) S8.out ?_
      simp only [Act.put, List.setIfInBounds_toArray, List.set_cons_zero, List.set_cons_succ, List.getElem_toArray, List.getElem_cons_zero, List.getElem_cons_succ]
      refine pe_last _ rfl ?_
      simp only [List.getElem_toArray, List.getElem_cons_zero, List.getElem_cons_succ]
      obtain ⟨e0, e1, e2, e3⟩ := HM8.out.cells
      have f1 := HM8.out.blk.frz 1
      have f2 := HM8.out.blk.frz 2
      go_upto_region 11 with fail
      have UM := Lib.hid (show Upd m w8 ((w8.setCell ⟨m, 1, none⟩ (.int .i64 U.1)).setCell ⟨m, 2, none⟩ (.int .i64 U.2)) from ((Upd.refl m w8).trans (Upd.set _ _ _ _)).trans (Upd.set _ _ _ _))
      have BM := Lib.hid (show Blk ((w8.setCell ⟨m, 1, none⟩ (.int .i64 U.1)).setCell ⟨m, 2, none⟩ (.int .i64 U.2)) m 4 (rowL [.pointer (some ⟨g, 0, none⟩), .int .i64 U.1, .int .i64 U.2, vb]) from ((HM8.out.blk.set 1 (.int .i64 U.1)).set 2 (.int .i64 U.2)).congr _ fun i hi => match i, hi with | 0, _ => rfl | 1, _ => rfl | 2, _ => rfl | 3, _ => rfl)
      obtain ⟨w9, hw9⟩ : ∃ w9, (w8.setCell ⟨m, 1, none⟩ (.int .i64 U.1)).setCell ⟨m, 2, none⟩ (.int .i64 U.2) = w9 := ⟨_, rfl⟩
      rw [hw9] at UM BM
      rw [hw9]
      clear hw9 e0 e1 e2 e3 f1 f2
      have R9 := Lib.hid (row_keep HM8.out.row fun c hc => UM.out.block c (fun e => HM.out.ne (e ▸ hc)))
      have U9 := Lib.hid (row_keep U8.out fun c hc => UM.out.block c (fun e => by have := (U8.out.lt c hc).1; have := HMO.out; have := HZ3.out; omega))
      obtain ⟨i0, hi0, hz0, hz1, hz2⟩ := info_parts info_str10
      obtain ⟨v10, w10, hrun, ho, hgr, hlo⟩ := app_rows (P := Tryz.prog) (w := w9) 58 9 i0 _ (by kernel_rfl) hi0 hz0 hz1 hz2 rfl R9.out U9.out (fun y hy => by obtain ⟨z, _, rfl⟩ := List.mem_map.1 hy; rfl) (by have h1 := HL.out; have h2 : bl.length ≤ 1000 := HSL.out; show bl.length + L.length ≤ 10000; omega)
      obtain ⟨va, vc, rfl⟩ := own_sl6 ho
      have HRUN := Lib.hid hrun
      have HOW := Lib.hid ho
      have HGR := Lib.hid hgr
      have HLO := Lib.hid hlo
      have HMG := Lib.hid (hgr.block m BM.out.lt (fun e => HM.out.ne e.symm))
      have B10 := Lib.hid (BM.out.of_heap HMG.out)
      obtain ⟨e0, e1, e2, e3⟩ := cells4 BM.out
      obtain ⟨g0, g1, g2, g3⟩ := cells4 B10.out
      have f3 := B10.out.frz 3
      clear hrun ho hgr hlo hi0 hz0 hz1 hz2
      go_wp2_with (at_builtin; refine wpl_append_run rfl _ _ 58 rfl HRUN.out ?_)
      go_ret
      have hu := Upd.set w10 m 3 (.slice va (bl.length + L.length) vc)
      have hz : w.heap.size ≤ w6.heap.size := Nat.le_trans HZC.out K6.out.b0.size
      have hz9 : w6.heap.size ≤ w9.heap.size := Nat.le_trans Y8.out.size (UM.out.below (Nat.le_refl m)).size
      have k69 : Keeps (fun b => b ≠ m) w6 w9 := (Keeps.of Y8.out).trans (Keeps.upd UM.out fun b hb => hb)
      have kall : Keeps (fun b => b ≠ m ∧ vb.ownBlock ≠ some b) w6 (w10.setCell ⟨m, 3, none⟩ (.slice va (bl.length + L.length) vc)) :=
        ((k69.sub fun b hb _ => hb.1).trans (Keeps.grown HGR.out fun b e hb => hb.2 e)).trans (Keeps.upd hu fun b hb => hb.1)
      have hrow : (w10.setCell ⟨m, 3, none⟩ (.slice va (bl.length + L.length) vc)).ownsRow 0 9 1 (.slice va (bl.length + L.length) vc) (bl ++ L.map Prod.fst).length (((bl ++ L.map Prod.fst).map rcB).map Value.string) := by
        have h := row_keep HOW.out (w' := w10.setCell ⟨m, 3, none⟩ (.slice va (bl.length + L.length) vc)) fun c hc => hu.block c (fun e => by
          subst e
          rcases HLO.out c hc with h | h
          · exact HM.out.ne h
          · have := BM.out.lt; omega)
        have e1 : (bl ++ L.map Prod.fst).length = bl.length + L.length := by rw [List.length_append, List.length_map]
        rw [e1, List.map_append, List.map_append]
        exact h
      refine HYES.out _ _ rfl ?_
      rw [if_pos trivial]
      refine ⟨O', fun b => b = m ∨ (Value.slice va (bl.length + L.length) vc).ownBlock = some b, at9_keep H6.out (kall.sub fun b hb _ => ⟨fun e => HM6O.out (e ▸ hb), fun e => HV6O.out b e hb⟩), ⟨_, ⟨?_, hrow, fun _ => Iff.rfl, fun e => ?_⟩⟩, ?_, HO6.out, fun b hb => ?_⟩
      · exact (B10.out.set 3 (.slice va (bl.length + L.length) vc)).congr _ fun i hi => match i, hi with | 0, _ => rfl | 1, _ => rfl | 2, _ => rfl | 3, _ => rfl
      · rcases HLO.out m e with h | h
        · exact HM.out.ne h
        · have := BM.out.lt; omega
      · exact ((Keeps.of XC.out).trans (K6.out.sub fun b hb _ => hb.1)).trans (kall.sub fun b hb _ => ⟨fun e => hb.2 (e ▸ HMO.out.1), fun e => hb.2 (HVO.out b e).1⟩)
      · rcases hb with rfl | hb
        · exact ⟨Or.inl HMO.out.1, HM6O.out⟩
        · rcases HLO.out b hb with h | h
          · exact ⟨Or.inl (HVO.out b h).1, HV6O.out b h⟩
          · exact ⟨Or.inr (by omega), fun ho => by have := at9_lt H6.out b ho; omega⟩
    · have HE := Lib.hid he
      have t1 : (PE == 0) = false := by simpa using he
      clear he
      go_wp2_with fail
      go_ret
      refine HYES.out _ _ rfl ?_
      rw [if_neg HE.out]
      exact ⟨O', H6.out, (Keeps.of XC.out).trans (K6.out.sub fun b hb _ => hb.1), HO6.out⟩
end
end Go.Proofs.YtnahebfhhcebpaaGreat
end
section
open Go Go.RowKit
namespace Go.Proofs.YtnahebfhhcebpaaGreat
open TT SS RR FF JJ CC WW BB
def theCode10 : Code10 where
  At := At10 9
  keep := fun ⟨v, h⟩ hk => ⟨v, h.keep hk⟩
  lt := fun ⟨_, h⟩ => h.lt
  record := record_any
  blockRecord := blockrec_any
  recall := fun l v w hv hs hl => (recall_any l v w hv hs hl).mono fun _ _ ⟨u, L, h1, h2, h3, h4⟩ => ⟨u, L, h1, h2, h3.now, h4⟩
  open_ := fun O w g s h _ hs hn hg => open10 O w g s h hs hn hg
  state := fun O w m g st h _ => state10 O w m g st h
  blocks := fun O w m g st h hok => blocks10 O w m g st h hok
  save := fun O O1 A w m g st s x v L h hm hd _ _ hz hok hv _ hs hl => save10 O O1 A w m g st s x v L h hm hd hz hok hv hs hl
end Go.Proofs.YtnahebfhhcebpaaGreat
end
section
open Go Go.RowKit
namespace Go.Proofs.YtnahebfhhcebpaaGreat
open TT SS RR FF JJ CC MM WW BB
theorem lawDstore (a b v p cv : Int) (k : ByteArray) (sv rv : Value) (l : List (Int × List ByteArray)) (m : List (Int × Int × ByteArray)) (w : World) (hv : SigsAt w sv l) (hr : ReqsAt w rv m) (hn : MemS l) (hk : k.size ≤ 9223372036854775807) (hm : m.length ≤ 9223372036854775807) :
    Calls Tryz.prog 4 #[.agg #[.int .i64 a, .int .i64 b], .agg #[.int .i64 v, .int .i64 p, .int .i64 cv, .string k, sv, rv]] w fun e w' => e = .returned (.bool true) ∧ Below w.heap.size w w' := lawD10 theCode10 a b v p cv k sv rv l m w hv hr hn hk hm
theorem lawSstore (l : List Op10) (v : Value) (w : World) (hv : OpsT w v l) (hm : MemsT l) : Calls Tryz.prog 5 #[v] w fun e w' => e = .returned (.bool true) ∧ Below w.heap.size w w' := lawS10 theCode10 l v w hv hm
theorem lawCstore (l : List Op10) (v : Value) (w : World) (hv : OpsT w v l) (hm : MemsT l) : Calls Tryz.prog 6 #[v] w fun e w' => e = .returned (.bool true) ∧ Below w.heap.size w w' := lawC10 theCode10 l v w hv hm
theorem lawTstore (l : List Op10) (v : Value) (w : World) (hv : OpsT w v l) (hm : MemsT l) : Calls Tryz.prog 3 #[v] w fun e w' => e = .returned (.bool true) ∧ Below w.heap.size w w' := lawT10 theCode10 l v w hv hm
end Go.Proofs.YtnahebfhhcebpaaGreat
end
