/-
  The walks of the reference's Learn and Commit.
-/
import Derived.Test.YtegkhhegapnkpaaDoorKYChd
import Derived.Test.YtegkhhegapnkpaaDoorKEEq
import Derived.Test.YtegkhhegapnkpaaDoorKGLook
import Derived.Test.YtegkhhegapnkpaaDoorKFHash
import Derived.Test.YtegkhhegapnkpaaDoorKFPutB
import Derived.Test.YtegkhhegapnkpaaDoorKRAwake
import Derived.Test.YtegkhhegapnkpaaDoorKRState
import Derived.Test.YtegkhhegapnkpaaDoorKJFirst
import Derived.Test.YtegkhhegapnkpaaDoorKFAt
section
open Go Go.RowKit
namespace Go.Proofs.YtegkhhegapnkpaaDoor
open YY FF JJ CC MM WW BB TT
/-- what Put's loop holds behind i blocks -/
def PutSt (O : Nat → Prop) (w2 : World) (g : Nat) (L : List BlockD) (M : List Bv) (i : Nat) (wr : World) : Prop :=
  ∃ N bv dv mv C, KpI wr g N bv dv mv C ∧ N.map Prod.fst = L ++ (M.map Prod.fst).take i ∧ Keeps (fun b => ¬ O b) w2 wr ∧ ∀ b, OwnK g bv dv mv C b → O b ∨ w2.heap.size ≤ b
set_option maxRecDepth 100000 in
set_option maxHeartbeats 16000000 in
theorem put11 (O A : Nat → Prop) (w : World) (g : Nat) (L : List BlockD) (v : Value) (M : List Bv) (h : At11 O w g L) (hT : Tabs w) (hv : Dep A w (fun w' => BvAt w' v M)) (hA : ∀ b, A b → ¬ O b) (hs : ∀ y ∈ M, SmallI y.1) (hl : L.length ≤ 50) (hm : M.length ≤ 50) (hst : standsL (lastF firstD L) (M.map Prod.fst)) :
    Calls Tryd.prog 46 #[.pointer (some ⟨g, 0, none⟩), v] w fun e w' => e = .returned (.int .i64 0) ∧ ∃ O', At11 O' w' g (L ++ M.map Prod.fst) ∧ Keeps (fun b => ¬ O b) w w' ∧ ∀ b, O' b → O b ∨ w.heap.size ≤ b := by
  have HA := Lib.hid h
  have HT := Lib.hid hT
  have HV := Lib.hid hv
  have HAO := Lib.hid hA
  have HS := Lib.hid hs
  have HL := Lib.hid hl
  have HM := Lib.hid hm
  have HST := Lib.hid hst
  obtain ⟨a0, cap, rfl⟩ := bv_shape hv.now
  clear h hT hv hA hs hl hm hst
  go_enter Tryd.func46, Tryd.ntmps46
  go_wp2_with fail
  refine (last11 O w g L HA.out HT.out (by have := HL.out; omega)).mono ?_
  rintro e w1 ⟨rfl, hb1⟩
  have B1 := Lib.hid hb1
  clear hb1
  obtain ⟨on, hon⟩ : ∃ on, lastF firstD L = on := ⟨_, rfl⟩
  rw [hon] at HST ⊢
  clear hon
  go_wp2_with fail
  refine (chained11 on M _ w1 (HV.out.on (Keeps.of B1.out)).now (tabs_on HT.out B1.out) HS.out HM.out HST.out).mono ?_
  rintro e w2 ⟨u, rfl, hrow, hb2⟩
  have B2 := Lib.hid (B1.out.trans (hb2.mono B1.out.size))
  have HROW := Lib.hid hrow
  obtain ⟨ua, uc, rfl⟩ := own_sl6 hrow
  have HRL := Lib.hid (show ∀ b, (Value.slice ua (digsN M).length uc).ownBlock = some b → w.heap.size ≤ b ∧ b < w2.heap.size from fun b hb => ⟨Nat.le_trans B1.out.size (HROW.out.lt b hb).1, (HROW.out.lt b hb).2⟩)
  have H2 := Lib.hid (at11_keep HA.out (Keeps.of B2.out))
  have HVL := Lib.hid (show Dep A w2 (fun w' => BvAt w' (.slice a0 M.length cap) M) from HV.out.on (Keeps.of B2.out))
  have HOL := Lib.hid (at11_lt HA.out)
  clear hrow hb2
  have hq0 : (digsN M).length = M.length := digsN_len M
  rw [hq0] at HROW HRL ⊢
  clear hq0
  go_wp2_with fail
  go_loopw [21] (fun y wr => ∃ i : Nat, i ≤ M.length ∧ y = .int .i64 (i : Int) ∧ PutSt O w2 g L M i wr) (fun y _ => M.length - (RowKit.intOf y).toNat)
  case atStart =>
    obtain ⟨N, bv, dv, mv, C, h1, h2, h3⟩ := H2.out
    exact ⟨0, Nat.zero_le _, rfl, N, bv, dv, mv, C, h1, by rw [List.take_zero, List.append_nil]; exact h2, Keeps.refl _ _, fun b hb => Or.inl ((h3 b).2 hb)⟩
  case round =>
    obtain ⟨i, hi, rfl, N, bv, dv, mv, C, hkp, hmap, hkr, hown⟩ := hrel
    have HKP := Lib.hid hkp
    have HMAP := Lib.hid hmap
    have HKR := Lib.hid hkr
    have HOWN := Lib.hid hown
    have HI := Lib.hid hi
    have i0 : (0 : Int) ≤ (i : Int) := by omega
    have ib : (i : Int) ≤ 50 := by have := HM.out; omega
    by_cases hlt : i < M.length
    · have hlt' : (i : Int) < (M.length : Int) := by omega
      have HLT := Lib.hid hlt
      have hvr := HVL.out.on (hkr.sub fun b hb _ => HAO.out b hb)
      have hrr := row_keep HROW.out fun c hc => hkr.block c (fun ho => by have := HOL.out c ho; have := (HRL.out c hc).1; omega) (HRL.out c hc).2
      obtain ⟨qd, dcap, hqe, hqd, hdc⟩ := dig_at (D := digsN M) (by rw [digsN_len]; exact hrr) i (by rw [digsN_len]; exact hlt)
      rw [digsN_at M i hlt] at hdc
      rw [digsN_len] at hqe
      injection hqe with e1 _ e3
      subst e1 e3
      have hsm := HS.out (M.getD i vb0) (by rw [List.getD_eq_getElem?_getD, List.getElem?_eq_getElem hlt]; exact List.getElem_mem hlt)
      have htk : (M.map Prod.fst).take (i + 1) = (M.map Prod.fst).take i ++ [(M.getD i vb0).1] := by
        rw [List.take_add_one, List.getElem?_map, List.getElem?_eq_getElem hlt, List.getD_eq_getElem?_getD, List.getElem?_eq_getElem hlt]; rfl
      obtain ⟨qb, qoff, rfl, hqb, _, hq⟩ := bv_at hvr.now i hlt
      obtain ⟨q0, q1, q2, q3, q4, q5, hin⟩ := hq wr (Below.refl _ _) i hlt
      obtain ⟨Y, hY⟩ : ∃ Y, M.getD i vb0 = Y := ⟨_, rfl⟩
      rw [hY] at q0 q1 q2 q3 q4 q5 hin hsm hdc htk
      obtain ⟨b, s5, s6⟩ := Y
      obtain ⟨e5, c5, h5⟩ := sl_of_sigs hin.1
      obtain ⟨e6, c6, h6⟩ := sl_of_reqs hin.2
      obtain ⟨n5, hn5⟩ : ∃ n5, (sigsI b).length = n5 := ⟨_, rfl⟩
      obtain ⟨n6, hn6⟩ : ∃ n6, b.2.length = n6 := ⟨_, rfl⟩
      replace h5 : s5 = .slice e5 n5 c5 := by rw [← hn5]; exact h5
      replace h6 : s6 = .slice e6 n6 c6 := by rw [← hn6]; exact h6
      subst h5 h6
      have HN5 := Lib.hid hn5
      have HN6 := Lib.hid hn6
      have HSV := Lib.hid (show SigsAt wr (.slice e5 n5 c5) (sigsI b) from hin.1)
      have HRV := Lib.hid (show ReqsAt wr (.slice e6 n6 c6) b.2 from hin.2)
      have HSM := Lib.hid (show SmallI b from hsm)
      obtain ⟨d, hd⟩ : ∃ d, digI b = d := ⟨_, rfl⟩
      have HD := Lib.hid hd
      have H32 := Lib.hid (show d.size = 32 by rw [← hd]; exact digD_size _ _ _ _ _)
      replace hdc : wr.cell? ⟨qd, i, none⟩ = some (.string d) := by rw [← hd]; exact hdc
      have HTK := Lib.hid (show (M.map Prod.fst).take (i + 1) = (M.map Prod.fst).take i ++ [b] from htk)
      obtain ⟨pv, hpv⟩ : ∃ pv, viewI b = pv := ⟨_, rfl⟩
      obtain ⟨pp, hpp⟩ : ∃ pp, propI b = pp := ⟨_, rfl⟩
      obtain ⟨pj, hpj⟩ : ∃ pj, jvI b = pj := ⟨_, rfl⟩
      obtain ⟨pk, hpk⟩ : ∃ pk, parI b = pk := ⟨_, rfl⟩
      have HPV := Lib.hid hpv
      have HPP := Lib.hid hpp
      have HPJ := Lib.hid hpj
      have HPK := Lib.hid hpk
      replace q0 : wr.cell? ⟨qb, qoff + i * 6, none⟩ = some (.int .i64 pv) := by rw [← hpv]; exact q0
      replace q1 : wr.cell? ⟨qb, qoff + i * 6 + 1, none⟩ = some (.int .i64 pp) := by rw [← hpp]; exact q1
      replace q2 : wr.cell? ⟨qb, qoff + i * 6 + 2, none⟩ = some (.int .i64 pj) := by rw [← hpj]; exact q2
      replace q3 : wr.cell? ⟨qb, qoff + i * 6 + 3, none⟩ = some (.string pk) := by rw [← hpk]; exact q3
      replace q4 : wr.cell? ⟨qb, qoff + i * 6 + 4, none⟩ = some (.slice e5 n5 c5) := q4
      replace q5 : wr.cell? ⟨qb, qoff + i * 6 + 5, none⟩ = some (.slice e6 n6 c6) := q5
      have HNL := Lib.hid (show N.length ≤ 100 by
        have := congrArg List.length hmap
        rw [List.length_map, List.length_append, List.length_take, List.length_map] at this
        have := HL.out; have := HM.out; omega)
      clear hlt hqb hq hY hin hn5 hn6 hd hpv hpp hpj hpk hsm htk hkp hmap hkr hown hvr hrr hi hqd
      go_wp2_with fail
      refine (gcopied_any pv pp pj pk _ _ (sigsI b) b.2 wr HSV.out HRV.out HSM.out.2.1.1 (small_tags HSM.out.2.1) (Nat.le_trans HSM.out.2.2.1 (by omega))).mono ?_
      rintro e w3 ⟨x0, xc0, x1, xc1, rfl, hsn, hrn, hon, hb3⟩
      rw [HN5.out] at hsn ⊢
      rw [HN6.out] at hrn hon ⊢
      have HSN := Lib.hid hsn
      have HRN := Lib.hid hrn
      have HON := Lib.hid hon
      have B3 := Lib.hid hb3
      clear hsn hrn hon hb3 q0 q1 q2 q3 q4 q5 hdc
      have HLO := Lib.hid (HKP.out.ownL)
      have H3 := Lib.hid ((HKP.out.on B3.out).widen (fun c => C c ∨ (wr.heap.size ≤ c ∧ c < w3.heap.size)) (fun _ hb => Or.inl hb) (fun c hc => hc.imp id fun k => ⟨fun e => by have := HLO.out g (Or.inl rfl); omega, fun e => by have := HLO.out c (Or.inr (Or.inl e)); omega, fun e => by have := HLO.out c (Or.inr (Or.inr (Or.inl e))); omega, fun e => by have := HLO.out c (Or.inr (Or.inr (Or.inr (Or.inl e)))); omega, k.2⟩))
      have HDI := Lib.hid (show Dep (fun c => C c ∨ (wr.heap.size ≤ c ∧ c < w3.heap.size)) w3 (fun wx => InnB wx (b, .slice x0 n5 xc0, .slice x1 n6 xc1)) from fun w' hk =>
        ⟨(HSN.out.keep hk.b0.size fun c k1 k2 => hk.block c (Or.inr ⟨k1, k2⟩) k2).sigs, reqs_keep HRN.out hk.b0.size fun c k1 k2 => hk.block c (Or.inr ⟨HON.out c k1, k2⟩) k2⟩)
      have HADD := add11 H3.out d (by have := H32.out; omega) b x0 n5 xc0 x1 n6 xc1 HDI.out (by have := HNL.out; omega) (by have := HNL.out; omega) (by rw [digsN_len]; have := HNL.out; omega)
      rw [HPV.out, HPP.out, HPJ.out, HPK.out] at HADD
      go_wp2_with fail
      refine HADD.mono ?_
      rintro e w4 ⟨rfl, bv', dv', mv', hkp, hk4, hlb, hld, hlm⟩
      have HK4 := Lib.hid (show KpI w4 g (N ++ [(b, .slice x0 n5 xc0, .slice x1 n6 xc1)]) bv' dv' mv' (fun c => C c ∨ (wr.heap.size ≤ c ∧ c < w3.heap.size)) by
        have e1 : digsN (N ++ [(b, Value.slice x0 n5 xc0, Value.slice x1 n6 xc1)]) = digsN N ++ [d] := by rw [digsN_snoc, HD.out]
        have e2 : (N ++ [(b, Value.slice x0 n5 xc0, Value.slice x1 n6 xc1)]).length = N.length + 1 := by rw [List.length_append]; rfl
        show KpJ w4 g _ (digsN _) (List.length _) bv' dv' mv' _
        rw [e1, e2]; exact hkp)
      have ZR := Lib.hid (show w2.heap.size ≤ wr.heap.size from HKR.out.b0.size)
      have HNX := Lib.hid (show PutSt O w2 g L M (i + 1) w4 from ⟨_, bv', dv', mv', _, HK4.out, by rw [List.map_append, HMAP.out, HTK.out, List.append_assoc]; rfl,
        ⟨HKR.out.b0.trans ((B3.out.mono (Nat.zero_le _)).trans hk4.b0), fun c hc hl => by
          have ho : ¬ OwnK g bv dv mv C c := fun ho => (HOWN.out c ho).elim hc fun k => by omega
          have z1 : c < wr.heap.size := Nat.lt_of_lt_of_le hl ZR.out
          exact (hk4.block c ⟨fun e => ho (Or.inl e), fun e => ho (Or.inr (Or.inl e)), fun e => ho (Or.inr (Or.inr (Or.inl e))), fun e => ho (Or.inr (Or.inr (Or.inr (Or.inl e))))⟩ (Nat.lt_of_lt_of_le z1 B3.out.size)).trans ((B3.out.block c z1).trans (HKR.out.block c hc hl))⟩, fun c hc => by
          rcases hc with hc | hc | hc | hc | hc
          · exact HOWN.out c (Or.inl hc)
          · exact (hlb c hc).elim (fun k => HOWN.out c (Or.inr (Or.inl k))) fun k => Or.inr (Nat.le_trans ZR.out (Nat.le_trans B3.out.size k))
          · exact (hld c hc).elim (fun k => HOWN.out c (Or.inr (Or.inr (Or.inl k)))) fun k => Or.inr (Nat.le_trans ZR.out (Nat.le_trans B3.out.size k))
          · exact (hlm c hc).elim (fun k => HOWN.out c (Or.inr (Or.inr (Or.inr (Or.inl k))))) fun k => Or.inr (Nat.le_trans ZR.out (Nat.le_trans B3.out.size k))
          · exact hc.elim (fun k => HOWN.out c (Or.inr (Or.inr (Or.inr (Or.inr k))))) fun k => Or.inr (Nat.le_trans ZR.out k.1)⟩)
      clear hkp hk4 hlb hld hlm HADD
      go_wp2_with fail
      go_roundw
      case rel => exact ⟨i + 1, by have := HLT.out; omega, by go_num, HNX.out⟩
      case measure => have := HLT.out; simp [RowKit.intOf]; omega
    · obtain rfl : i = M.length := by have := HI.out; omega
      have hlt' : ¬ (M.length : Int) < (M.length : Int) := by omega
      clear hlt hkp hmap hkr hown hi
      go_wp2_with fail
      go_ret
      refine ⟨rfl, OwnK g bv dv mv C, ⟨N, bv, dv, mv, C, HKP.out, ?_, fun _ => Iff.rfl⟩, (Keeps.of B2.out).trans HKR.out, fun b hb => (HOWN.out b hb).imp id fun k => Nat.le_trans B2.out.size k⟩
      have := HMAP.out
      rw [List.take_of_length_le (by rw [List.length_map]; exact Nat.le_refl _)] at this
      exact this
end Go.Proofs.YtegkhhegapnkpaaDoor
end
section
open Go Go.RowKit
namespace YY
open FF JJ CC WW BB Go.Maps
/-- 'len(m)' of a map of one's own -/
theorem wpl_lenK {P : Program} {ops : Array Oper} {rest : List Oper} {o : Oper} {a : Act} {Q : Exit → Act → World → Prop} {k e t : TypeId} {w : World} {R : Value → Option (DataW Unit × List MemPlace)} {b n m : Nat} {D : DataW Unit} (x : Operand) (hg : o.guard = none)
    (hop : o.op = Op.call { callee := Callee.builtin Builtin.len, args := #[x], argTypes := #[t] }) (ht : P.underlying t = some (.map k e)) (h : w.ownsMap P k R b n D) (hx : a.eval x = .map (some b)) (hm : Maps.size D = m) (hK : wpList P ops Q rest (a.put o.dst (.int .i64 (m : Int))) w) : wpList P ops Q (o :: rest) a w := by
  refine wpl_value hg ?_ hK
  unfold execOp
  simp [hop, resolve, invoke, builtin, hx, h.len ht o.type, hm, Result.andThen]
end YY
namespace Go.Proofs.YtegkhhegapnkpaaDoor
open YY FF JJ CC WW BB TT Go.Maps Go.WideMaps
theorem rowNumK : (163 : TypeId) < Tryd.prog.types.size := of_decide_eq_true (by kernel_rfl)
theorem wideNumK : (match Tryd.prog.underlying 163 with | some (.array _ _) | some (.struct _) => true | _ => false) = true := by kernel_rfl
theorem laidOutK : laidOutB Tryd.prog = true := by kernel_rfl
set_option maxRecDepth 100000 in
theorem law_numK : Keyed Tryd.prog 163 := Keyed.of_law (deep_law_laid laidOutK (m := 2 + 1) (by decide) rowNumK (by kernel_rfl) wideNumK)
theorem und_setK : Tryd.prog.underlying 160 = some (.map 163 161) := by kernel_rfl
theorem cells_numK : Tryd.prog.cellsOf 163 = 2 := by kernel_rfl
theorem cells_intK : Tryd.prog.cellsOf 3 = 1 := by kernel_rfl
theorem und_reqsK : Tryd.prog.underlying 25 = some (.slice 34) := by kernel_rfl
theorem info_reqK : (Tryd.prog.info? 34).map (fun i => (i.zero, i.size, i.bytes)) = some (some (.agg #[.int .i64 0, .int .i64 0, .string ⟨#[]⟩]), 3, 32) := by kernel_rfl
theorem key_numK (x : Int × Int) (h : In64 x) : keyOf Tryd.prog 163 (.agg #[.int .i64 x.1, .int .i64 x.2]) = some (keyQ x) := by
  have hkt : Tryd.prog.keyType 163 = true := by kernel_rfl
  have hs : ∃ m, Tryd.prog.types.size = m + 1 := Nat.exists_eq_succ_of_ne_zero (Nat.ne_of_gt (Nat.lt_of_le_of_lt (Nat.zero_le _) rowNumK))
  obtain ⟨m, hm⟩ := hs
  have w1 := wf64 h.1
  have w2 := wf64 h.2
  unfold keyOf
  simp only [Tryd.underlying163]
  rw [if_pos (by simp [hkt, Value.formed, Tryd.underlying163, cells_numK]), hm]
  unfold Program.keyLits
  simp only [Tryd.underlying163, Value.cells]
  rw [if_pos ⟨by rw [cells_numK]; rfl, by simp⟩]
  simp [cells_intK, Program.keyLits, Tryd.underlying3, w1, w2, List.mapM_cons, List.mapM_nil, keyQ]
set_option maxRecDepth 100000 in
theorem keyQ_injK {x y : Int × Int} (hx : In64 x) (hy : In64 y) (h : keyQ x = keyQ y) : x = y := by
  have h1 := key_numK x hx
  rw [h] at h1
  have h2 := law_numK.inj h1 (key_numK y hy)
  have h3 := congrArg Array.toList (Value.agg.inj h2)
  have h4 : [Value.int .i64 x.1, .int .i64 x.2] = [Value.int .i64 y.1, .int .i64 y.2] := h3
  obtain ⟨h5, h6⟩ := List.cons.inj h4
  exact Prod.ext (Value.int.inj h5).2 (Value.int.inj (List.cons.inj h6).1).2
theorem set_putK {D : DataW Unit} {ks : List (Int × Int)} {y : Int × Int} (h : SetIs D ks) (hy : In64 y) (d : DataW Unit) : SetIs (D.put (keyQ y) d) (ks ++ [y]) := by
  have hk : WideAt.IsKeyLit (keyQ y) := trivial
  refine ⟨h.tidy.put hk _, fun x hx => ?_⟩
  by_cases e : x = y
  · subst e
    rw [has_put_same h.tidy.isMap hk]; simp
  · rw [has_put_other (fun k => e (keyQ_injK hx hy k)), h.has x hx]; simp [e]
/-- one that is there already -/
theorem set_putSame {D : DataW Unit} {ks : List (Int × Int)} {y : Int × Int} (h : SetIs D ks) (hy : In64 y) (hm : y ∈ ks) (d : DataW Unit) : SetIs (D.put (keyQ y) d) ks := by
  have hk : WideAt.IsKeyLit (keyQ y) := trivial
  refine ⟨h.tidy.put hk _, fun x hx => ?_⟩
  by_cases e : x = y
  · subst e
    rw [has_put_same h.tidy.isMap hk]; simp [hm]
  · rw [has_put_other (fun k => e (keyQ_injK hx hy k)), h.has x hx]
/-- the loops' state: what has come of i blocks and of k requests of the next -/
structure RqK (w0 : World) (L : List BlockD) (i k : Nat) (x : Value) (wr : World) : Prop where
  map : ∃ D : DataW Unit, wr.ownsMap Tryd.prog 163 unitElem w0.heap.size ((flatR (L.take i)).length + k) D ∧ SetIs D ((outN L i k).map keyR) ∧ Maps.size D = (outN L i k).length
  row : wr.ownsRow (w0.heap.size + 1) 34 3 x (outN L i k).length (cellsR (outN L i k))
  below : Below w0.heap.size w0 wr
  size : w0.heap.size + 1 ≤ wr.heap.size
  shape : ∃ a c, x = .slice a (outN L i k).length c
theorem RqK.on {w0 wr w' : World} {L : List BlockD} {i k : Nat} {x : Value} (h : RqK w0 L i k x wr) (hb : Below wr.heap.size wr w') : RqK w0 L i k x w' := by
  obtain ⟨D, h1, h2⟩ := h.map
  obtain ⟨es, clock, g1, g2⟩ := h1
  exact ⟨⟨D, ⟨es, clock, (hb.block _ (Array.getElem?_eq_some_iff.1 g1).1).trans g1, g2⟩, h2⟩, row_keep h.row fun c hc => hb.block c (h.row.lt c hc).2, h.below.trans (hb.mono h.below.size), Nat.le_trans h.size hb.size, h.shape⟩
set_option maxRecDepth 100000 in
set_option maxHeartbeats 16000000 in
theorem requests11 (O : Nat → Prop) (w : World) (g : Nat) (L : List BlockD) (h : At11 O w g L) (hl : L.length ≤ 100) (hf : (flatR L).length ≤ 500) (h64 : ∀ r ∈ flatR L, In64 (keyR r)) :
    Calls Tryd.prog 49 #[.pointer (some ⟨g, 0, none⟩)] w fun e w' => ∃ u, e = .returned u ∧ ReqsAt w' u (onceA L) ∧ Below w.heap.size w w' := by
  obtain ⟨N, bv, dv, mv, C, hkp, rfl, _⟩ := h
  have HV := Lib.hid hkp.blocks
  obtain ⟨c0, _, _⟩ := hkp.cells
  obtain ⟨a0, cap, rfl⟩ := bv_shape hkp.blocks
  have HGL := Lib.hid hkp.blk.lt
  obtain ⟨D, hD⟩ : ∃ D, N.map Prod.fst = D := ⟨_, rfl⟩
  have HD := Lib.hid (show N.length = D.length by rw [← hD, List.length_map])
  have HDG := Lib.hid (show ∀ i, i < N.length → D.getD i bd0 = (N.getD i vb0).1 from fun i hi => by
    rw [← hD, List.getD_eq_getElem?_getD, List.getElem?_map, List.getElem?_eq_getElem hi, List.getD_eq_getElem?_getD, List.getElem?_eq_getElem hi]; rfl)
  rw [hD] at hl hf h64 ⊢
  have HL := Lib.hid (show N.length ≤ 100 by rw [HD.out]; exact hl)
  have HF := Lib.hid hf
  have H64 := Lib.hid h64
  have hmm := @run_makeMap Tryd.prog
  have c1 : (w.alloc (.map #[] 0)).cell? ⟨g, 0, none⟩ = some (.slice a0 N.length cap) := ((((Below.refl w.heap.size w).alloc (Nat.le_refl _) (.map #[] 0)).cell (p := ⟨g, 0, none⟩) HGL.out)).trans c0
  clear hkp hl hf h64 hD c0
  go_enter Tryd.func49, Tryd.ntmps49
  go_wp2_with fail
  clear hmm c1
  go_loopw [3, 15] (fun x y wr => ∃ i : Nat, i ≤ N.length ∧ y = .int .i64 (i : Int) ∧ RqK w D i 0 x wr) (fun _ y _ => N.length - (RowKit.intOf y).toNat)
  case atStart => exact ⟨0, Nat.zero_le _, rfl, ⟨_, World.ownsMap_made _ _ _ _, SetIs.empty, rfl⟩, World.ownsRow_nil _ _ _ _, (Below.refl _ _).alloc (Nat.le_refl _) _, by simp, ⟨none, 0, rfl⟩⟩
  case round =>
    obtain ⟨i, hi, rfl, hst⟩ := hrel
    have HST := Lib.hid hst
    have i0 : (0 : Int) ≤ (i : Int) := by omega
    have ib : (i : Int) ≤ 100 := by have := HL.out; omega
    obtain ⟨xa, xc, rfl⟩ := hst.shape
    by_cases hlt : i < N.length
    · have hlt' : (i : Int) < (N.length : Int) := by omega
      have HLT := Lib.hid hlt
      have HDI := Lib.hid (HDG.out i hlt)
      have HBL := Lib.hid (batch_le (L := D) (i := i) (by rw [← HD.out]; exact hlt))
      obtain ⟨qb, qoff, rfl, hqb, _, hq⟩ := bv_at HV.out i hlt
      have HQ := Lib.hid (fun wx (hb : Below w.heap.size w wx) => (hq wx hb i hlt).2.2.2.2.2)
      obtain ⟨q0, q1, q2, q3, q4, q5, hin⟩ := hq wr hst.below i hlt
      obtain ⟨Y, hY⟩ : ∃ Y, N.getD i vb0 = Y := ⟨_, rfl⟩
      rw [hY] at HQ HDI q0 q1 q2 q3 q4 q5 hin
      obtain ⟨bd, s5, s6⟩ := Y
      have hdi : D.getD i bd0 = bd := HDI.out
      obtain ⟨e5, n5, h5⟩ := sl_of_sigs hin.1
      obtain ⟨l5, hl5⟩ : ∃ l5, (sigsI bd).length = l5 := ⟨_, rfl⟩
      replace h5 : s5 = .slice e5 l5 n5 := by rw [← hl5]; exact h5
      obtain ⟨e6, n6, h6⟩ := sl_of_reqs hin.2
      replace h6 : s6 = .slice e6 bd.2.length n6 := h6
      subst h5 h6
      have HRQ := Lib.hid (fun wx (hb : Below w.heap.size w wx) => show ReqsAt wx (.slice e6 bd.2.length n6) bd.2 from (HQ.out wx hb).2.2)
      have HB5 := Lib.hid (show bd.2.length ≤ 500 by have := HBL.out; have := HF.out; rw [hdi] at *; omega)
      have HFB := Lib.hid (show (flatR (D.take i)).length + bd.2.length ≤ 500 by have := HBL.out; have := HF.out; rw [hdi] at *; omega)
      have HDB := Lib.hid hdi
      have HI64 := Lib.hid (show ∀ r ∈ bd.2, In64 (keyR r) from fun r hr => H64.out r (by
        have h1 : D.getD i bd0 ∈ D := by rw [List.getD_eq_getElem?_getD, List.getElem?_eq_getElem (by rw [← HD.out]; exact hlt)]; exact List.getElem_mem _
        unfold flatR
        rw [List.mem_flatten]
        exact ⟨bd.2, List.mem_map.2 ⟨bd, hdi ▸ h1, rfl⟩, hr⟩))
      obtain ⟨pv, hpv⟩ : ∃ pv, viewI bd = pv := ⟨_, rfl⟩
      obtain ⟨pp, hpp⟩ : ∃ pp, propI bd = pp := ⟨_, rfl⟩
      obtain ⟨pj, hpj⟩ : ∃ pj, jvI bd = pj := ⟨_, rfl⟩
      obtain ⟨pk, hpk⟩ : ∃ pk, parI bd = pk := ⟨_, rfl⟩
      replace q0 : wr.cell? ⟨qb, qoff + i * 6, none⟩ = some (.int .i64 pv) := by rw [← hpv]; exact q0
      replace q1 : wr.cell? ⟨qb, qoff + i * 6 + 1, none⟩ = some (.int .i64 pp) := by rw [← hpp]; exact q1
      replace q2 : wr.cell? ⟨qb, qoff + i * 6 + 2, none⟩ = some (.int .i64 pj) := by rw [← hpj]; exact q2
      replace q3 : wr.cell? ⟨qb, qoff + i * 6 + 3, none⟩ = some (.string pk) := by rw [← hpk]; exact q3
      replace q4 : wr.cell? ⟨qb, qoff + i * 6 + 4, none⟩ = some (.slice e5 l5 n5) := q4
      replace q5 : wr.cell? ⟨qb, qoff + i * 6 + 5, none⟩ = some (.slice e6 bd.2.length n6) := q5
      have B1 := Lib.hid ((Below.refl wr.heap.size wr).alloc (Nat.le_refl _) (.cells #[.int .i64 pv, .int .i64 pp, .int .i64 pj, .string pk, .slice e5 l5 n5, .slice e6 bd.2.length n6] 29))
      have L1 := Lib.hid (show Blk (wr.alloc (.cells #[.int .i64 pv, .int .i64 pp, .int .i64 pj, .string pk, .slice e5 l5 n5, .slice e6 bd.2.length n6] 29)) wr.heap.size 6 (rowL [.int .i64 pv, .int .i64 pp, .int .i64 pj, .string pk, .slice e5 l5 n5, .slice e6 bd.2.length n6]) from Blk.new' rfl (RR.row6_ _ _ _ _ _ _))
      clear hst hlt hi hq hY hdi HQ hqb hin hl5 hpv hpp hpj hpk
      go_upto_region 6 with fail
      obtain ⟨y0, hy0⟩ : ∃ y0, wr.heap.size = y0 := ⟨_, rfl⟩
      obtain ⟨w1, hw1⟩ : ∃ w1, wr.alloc (.cells #[.int .i64 pv, .int .i64 pp, .int .i64 pj, .string pk, .slice e5 l5 n5, .slice e6 bd.2.length n6] 29) = w1 := ⟨_, rfl⟩
      rw [hw1] at B1 L1 ⊢
      rw [hy0] at L1 ⊢
      have HS1 := Lib.hid (HST.out.on B1.out)
      clear hw1 hy0 q0 q1 q2 q3 q4 q5
      obtain ⟨_, _, _, _, _, d5⟩ := RR.cells6 L1.out
      go_wp2_with fail
      clear d5
      go_loopw [3, 22] (fun x y wx => ∃ k : Nat, k ≤ bd.2.length ∧ y = .int .i64 (k : Int) ∧ RqK w D i k x wx) (fun _ y _ => bd.2.length - (RowKit.intOf y).toNat)
      case atStart => exact ⟨0, Nat.zero_le _, rfl, HS1.out⟩
      case round =>
        obtain ⟨k, hk, rfl, hst⟩ := hrel
        have HSK := Lib.hid hst
        have k0 : (0 : Int) ≤ (k : Int) := by omega
        have kb : (k : Int) ≤ 500 := by have := HB5.out; omega
        obtain ⟨xa, xc, rfl⟩ := hst.shape
        obtain ⟨E, hown, hset, hsz⟩ := hst.map
        obtain ⟨out, hout⟩ : ∃ out, outN D i k = out := ⟨_, rfl⟩
        have HOUT := Lib.hid hout
        have HOL := Lib.hid (show out.length ≤ 500 by rw [← hout]; have := outN_len D i k; have := HFB.out; omega)
        have hrow := hst.row
        rw [hout] at hrow hset hsz ⊢
        have HROW := Lib.hid hrow
        have HOWN := Lib.hid hown
        have HSET := Lib.hid hset
        have HSZ := Lib.hid hsz
        have HBK := Lib.hid hst.below
        have HZK := Lib.hid hst.size
        clear hst hrow hown hset hsz
        by_cases hkt : k < bd.2.length
        · have hkt' : (k : Int) < (bd.2.length : Int) := by omega
          have HKT := Lib.hid hkt
          have HSN := Lib.hid (outN_snoc (L := D) (i := i) (k := k) (by rw [HDB.out]; exact hkt))
          have HIN := Lib.hid (HI64.out _ (getD_mem' bd.2 r0 k hkt))
          obtain ⟨a1, cc1, he, h | ⟨b, off, h1, hbw, hcell⟩⟩ := HRQ.out w (Below.refl _ _)
          · rw [h] at hkt; simp at hkt
          injection he with e1 _ e3
          subst e1 e3 h1
          obtain ⟨q0, q1, q2⟩ := JJ.reqs_at HBK.out hbw hcell k hkt
          obtain ⟨r, hr⟩ : ∃ r, bd.2.getD k r0 = r := ⟨_, rfl⟩
          rw [hr] at q0 q1 q2 HIN
          rw [hout, HDB.out, hr] at HSN
          obtain ⟨c, q, t⟩ := r
          have A1 := Lib.hid ((Below.refl wr.heap.size wr).alloc (Nat.le_refl _) (.cells #[.int .i64 c, .int .i64 q, .string t] 34))
          have BX := Lib.hid (show Blk (wr.alloc (.cells #[.int .i64 c, .int .i64 q, .string t] 34)) wr.heap.size 3 (rowL [.int .i64 c, .int .i64 q, .string t]) from Blk.new' rfl (RR.row3_ _ _ _))
          have HKEY := Lib.hid (show keyOf Tryd.prog 163 (.agg #[.int .i64 c, .int .i64 q]) = some (keyQ (c, q)) from key_numK (c, q) HIN.out)
          have HBND := Lib.hid (show (flatR (D.take i)).length + k < maxLen by have := HFB.out; unfold maxLen; omega)
          clear hk hkt hbw hcell hr hout
          go_upto_region 9 with fail
          obtain ⟨w2, hw2⟩ : ∃ w2, wr.alloc (.cells #[.int .i64 c, .int .i64 q, .string t] 34) = w2 := ⟨_, rfl⟩
          obtain ⟨y, hy⟩ : ∃ y, wr.heap.size = y := ⟨_, rfl⟩
          have HY := Lib.hid hy
          have HZ2 := Lib.hid (show w2.heap.size = y + 1 by rw [← hw2, ← hy]; simp)
          have HO2 := Lib.hid (show w2.ownsMap Tryd.prog 163 unitElem w.heap.size ((flatR (D.take i)).length + k) E by rw [← hw2]; exact HOWN.out.alloc _)
          rw [hw2] at A1 BX
          rw [hy] at BX
          rw [hw2, hy]
          have R2 := Lib.hid (row_keep HROW.out fun c hc => A1.out.block c (HROW.out.lt c hc).2)
          have X2 := Lib.hid (HBK.out.trans (A1.out.mono HBK.out.size))
          clear hw2 hy q0 q1 q2
          obtain ⟨d0, d1, d2⟩ := RR.cells3 BX.out
          have HNE := Lib.hid (show some y ≠ some w.heap.size by have := HZK.out; have := HY.out; intro e; injection e; omega)
          go_upto_region 10 with (at_mapUpdate; refine wpList_mapUpdate_own _ rfl _ _ _ 160 rfl 163 161 law_numK und_setK (unitElem (H := Unit)) w.heap.size _ E rfl HO2.out HBND.out _ _ _ rfl rfl HKEY.out _ [] unitElem_mk ?_)
          intro w3 hm3 hg3
          have HM3 := Lib.hid hm3
          have G3 := Lib.hid hg3
          have BX3 := Lib.hid (BX.out.of_heap (hg3.block y BX.out.lt HNE.out))
          have R3 := Lib.hid (R2.out.kept hg3 (Or.inr fun e => by have := (R2.out.lt _ e).1; omega))
          have X3 := Lib.hid (X2.out.grown hg3 X2.out.size (fun j hj => by cases hj; exact Nat.le_refl _))
          have Z3 := Lib.hid (show w.heap.size + 1 ≤ w3.heap.size from Nat.le_trans HZK.out (Nat.le_trans A1.out.size hg3.size))
          clear hm3 hg3 d0 d1 d2
          obtain ⟨d0, d1, d2⟩ := RR.cells3 BX3.out
          by_cases hin : (c, q) ∈ out.map keyR
          · have HEQ := Lib.hid (show outN D i (k + 1) = out by rw [HSN.out]; unfold onceStepN; rw [if_neg (by rintro ⟨_, h⟩; exact h hin)])
            have HPUT := Lib.hid (set_putSame HSET.out HIN.out hin (.agg []))
            have HSZ3 := Lib.hid (show Maps.size (E.put (keyQ (c, q)) (.agg [])) = out.length by
              rw [size_put HSET.out.tidy, HSET.out.has (c, q) HIN.out, if_pos (by simpa using hin)]; exact HSZ.out)
            have t3 : ¬ (out.length : Int) < (out.length : Int) := by omega
            clear hin
            go_wp2_with (at_len; refine wpl_lenK _ rfl rfl und_setK HM3.out rfl HSZ3.out ?_)
            go_roundw
            case rel => exact ⟨k + 1, by have := HKT.out; omega, by go_num, ⟨_, HM3.out, by rw [HEQ.out]; exact HPUT.out, by rw [HEQ.out]; exact HSZ3.out⟩, by rw [HEQ.out]; exact R3.out, X3.out, Z3.out, ⟨xa, xc, by rw [HEQ.out]⟩⟩
            case measure => have := HKT.out; simp [RowKit.intOf]; omega
          · have HEQ := Lib.hid (show outN D i (k + 1) = out ++ [(c, q, t)] by rw [HSN.out]; unfold onceStepN; rw [if_pos ⟨by have := HOL.out; omega, hin⟩])
            have HPUT := Lib.hid (set_putK HSET.out HIN.out (.agg []))
            obtain ⟨m, hm⟩ : ∃ m, out.length + 1 = m := ⟨_, rfl⟩
            have HMM := Lib.hid hm
            have HSZ3 := Lib.hid (show Maps.size (E.put (keyQ (c, q)) (.agg [])) = m by
              rw [size_put HSET.out.tidy, HSET.out.has (c, q) HIN.out, if_neg (by simpa using hin), HSZ.out]; exact hm)
            have t3 : (out.length : Int) < (m : Int) := by omega
            have A3 := Lib.hid ((Below.refl w3.heap.size w3).alloc (Nat.le_refl _) (.cells #[.int .i64 c, .int .i64 q, .string t] 34))
            have R4 := Lib.hid (row_keep R3.out fun c hc => A3.out.block c (R3.out.lt c hc).2)
            have X4 := Lib.hid (X3.out.trans (A3.out.mono X3.out.size))
            obtain ⟨ti, i1, i2, i3, i4⟩ := info_parts info_reqK
            obtain ⟨u', w5, hrun, hown, hgr, _, _⟩ := run_append_own_at (P := Tryd.prog) (w := w3.alloc (.cells #[.int .i64 c, .int .i64 q, .string t] 34)) (w.heap.size + 1) 25 25 34 ti _ 3 32 und_reqsK i1 i2 i3 i4 rfl (by decide) _ out.length (cellsR out) R4.out ⟨w3.heap.size, 0, none⟩ 1 1 [.int .i64 c, .int .i64 q, .string t] rfl (cells3_new w3 c q t _) (cells3_one c q t) (by have := HOL.out; unfold maxLen; omega) (by have := HOL.out; omega) (Nat.le_trans Z3.out A3.out.size)
            obtain ⟨ua, uc, rfl⟩ := own_sl6 hown
            have HOW := Lib.hid (show w5.ownsRow (w.heap.size + 1) 34 3 (.slice ua (out.length + 1) uc) (out ++ [(c, q, t)]).length (cellsR (out ++ [(c, q, t)])) by rw [cellsR_snoc, List.length_append]; exact hown)
            have X5 := Lib.hid (X4.out.grown hgr X4.out.size (fun k hk => Nat.le_trans (Nat.le_succ _) (R4.out.lt k hk).1))
            have Z5 := Lib.hid (show w.heap.size + 1 ≤ w5.heap.size from Nat.le_trans Z3.out (Nat.le_trans A3.out.size hgr.size))
            have HM5 := Lib.hid ((HM3.out.alloc (.cells #[.int .i64 c, .int .i64 q, .string t] 34)).kept hgr (fun e => by have := (R4.out.lt _ e.symm).1; omega))
            clear hin hown hgr i1 i2 i3 i4 hm
            go_wp2_with (first
              | (at_len; refine wpl_lenK _ rfl rfl und_setK HM3.out rfl HSZ3.out ?_)
              | (at_builtin; refine wpl_append_runY rfl _ _ _ rfl hrun ?_))
            clear hrun
            go_roundw
            case rel => exact ⟨k + 1, by have := HKT.out; omega, by go_num, ⟨_, HM5.out, by rw [HEQ.out, List.map_append]; exact HPUT.out, by rw [HEQ.out, List.length_append, HSZ3.out]; exact HMM.out.symm⟩, by rw [HEQ.out]; exact HOW.out, X5.out, Z5.out, ⟨ua, uc, by rw [HEQ.out, List.length_append]; rfl⟩⟩
            case measure => have := HKT.out; simp [RowKit.intOf]; omega
        · obtain rfl : k = bd.2.length := by omega
          have hkt' : ¬ (bd.2.length : Int) < (bd.2.length : Int) := by omega
          have HNX := Lib.hid (show outN D i bd.2.length = outN D (i + 1) 0 by
            have := outN_all (L := D) (i := i) (by rw [← HD.out]; exact HLT.out)
            rw [HDB.out] at this; exact this)
          have HFT := Lib.hid (show (flatR (D.take (i + 1))).length + 0 = (flatR (D.take i)).length + bd.2.length by
            rw [flatR_take (by rw [← HD.out]; exact HLT.out), HDB.out, List.length_append]; rfl)
          rw [HNX.out] at HOUT
          clear hk hkt hout
          go_wp2_with fail
          go_roundw
          case rel => exact ⟨i + 1, by have := HLT.out; omega, by go_num, ⟨E, by rw [HFT.out]; exact HOWN.out, by rw [HOUT.out]; exact HSET.out, by rw [HOUT.out]; exact HSZ.out⟩, by rw [HOUT.out]; exact HROW.out, HBK.out, HZK.out, ⟨xa, xc, by rw [HOUT.out]⟩⟩
          case measure => have := HLT.out; simp [RowKit.intOf]; omega
    · obtain rfl : i = N.length := by omega
      have hlt' : ¬ (N.length : Int) < (N.length : Int) := by omega
      have HFIN := Lib.hid (show outN D N.length 0 = onceA D by rw [outN_zero, HD.out, List.take_length]; rfl)
      clear hi hlt
      go_wp2_with fail
      go_ret
      refine ⟨_, rfl, ?_, HST.out.below⟩
      show ReqsAt wr (.slice xa (outN D N.length 0).length xc) (onceA D)
      rw [← HFIN.out]
      exact reqs_of_own HST.out.row
end Go.Proofs.YtegkhhegapnkpaaDoor
end
section
open Go Go.RowKit
namespace Go.Proofs.YtegkhhegapnkpaaDoor
open YY FF JJ CC MM WW BB
theorem und_tsB (w : World) : (underlying 44).run Tryd.prog w = .ok (.slice 9) w := by kernel_rfl
theorem siz_tsB (w : World) : (Go.sizeOf 9).run Tryd.prog w = .ok 1 w := by kernel_rfl
set_option maxRecDepth 100000 in
set_option maxHeartbeats 4000000 in
theorem begins11 (l m : List ByteArray) (v u : Value) (w : World) (hv : StrsAt w v l) (hu : StrsAt w u m) (hr : RoomV u) (hl : l.length ≤ 1000) (hm : m.length ≤ 1000) :
    Calls Tryd.prog 51 #[v, u] w fun e w' => e = .returned (.bool (begL l m)) ∧ Below w.heap.size w w' := by
  have HV := Lib.hid hv
  have HU := Lib.hid hu
  have HL := Lib.hid hl
  have HM := Lib.hid hm
  obtain ⟨a0, c0, rfl, _⟩ := hv
  obtain ⟨a1, c1, rfl, _⟩ := hu
  have HR := Lib.hid (hr a1 m.length c1 rfl)
  clear hr hl hm
  by_cases h : l.length ≤ m.length
  · have t1 : decide ((l.length : Int) ≤ (m.length : Int)) = true := decide_eq_true (by omega)
    have t2 : (l.length : Int) ≤ (m.length : Int) := by omega
    have H := Lib.hid h
    have HB := Lib.hid (show decide (l = m.take l.length) = begL l m from rfl)
    clear h
    go_enter Tryd.func51, Tryd.ntmps51
    go_wp2_with (with_reducible refine hold_slice11 rfl ?_)
    refine wpl_slice_hi11 (.tmp 12) (.tmp 14) (by rfl) rfl (by rfl) (by rfl) (und_tsB _) (siz_tsB _) (by have := H.out; have := HR.out; omega) ?_
    go_wp2_with fail
    refine (eqstr_any l (m.take l.length) _ _ w HV.out (strs_take HU.out l.length c1 H.out) HL.out).mono ?_
    rintro e w2 ⟨rfl, hb2⟩
    rw [HB.out]
    go_wp2_with fail
    go_ret
    exact ⟨rfl, hb2⟩
  · have t1 : decide ((l.length : Int) ≤ (m.length : Int)) = false := decide_eq_false (by omega)
    have t2 : ¬ (l.length : Int) ≤ (m.length : Int) := by omega
    have HB := Lib.hid (begL_long (l := l) (m := m) (by omega))
    clear h
    go_enter Tryd.func51, Tryd.ntmps51
    go_wp2_with fail
    go_ret
    rw [HB.out]
    exact ⟨rfl, Below.refl _ _⟩
end Go.Proofs.YtegkhhegapnkpaaDoor
end
section
open Go Go.RowKit
namespace Go.Proofs.YtegkhhegapnkpaaDoor
open YY FF JJ CC MM WW BB
def theCode11 : Code11 where
  At := At11
  keep := at11_keep
  lt := at11_lt
  new w _ := new11 w
  last O w g L h hT hl _ := last11 O w g L h hT (by omega)
  put O A w g L v M h hT _ hv hA _ hs hl hm hst := put11 O A w g L v M h hT hv hA hs hl hm hst
  len O w g L h _ := len11 O w g L h
  requests O w g L h hl hf h64 := requests11 O w g L h hl hf h64
  begins l m v u w hv hu hr hl hm := begins11 l m v u w hv hu hr hl hm
end Go.Proofs.YtegkhhegapnkpaaDoor
end
section
open Go Go.RowKit
namespace Go.Proofs.YtegkhhegapnkpaaDoor
open YY FF JJ CC MM WW BB
theorem lawBkeep (l : List ByteArray) (a0 : Option Addr) (c0 : Nat) (m : List ByteArray) (a1 : Option Addr) (c1 k : Nat) (w : World) (_ : l.length ≤ c0) (hv : StrsAt w (.slice a0 l.length c0) l) (hc : m.length ≤ c1) (hu : StrsAt w (.slice a1 m.length c1) m) (hk : k < 256) (hT : Tabs w) :
    Calls Tryd.prog 9 #[.slice a0 l.length c0, .slice a1 m.length c1, .int .u8 (k : Int)] w fun e w' => e = .returned (.bool true) ∧ Below w.heap.size w w' := lawB11 theCode11 l m a0 a1 c0 c1 k w hT hv hu hc hk
theorem lawOkeep (l : List (Nat × Nat × Nat)) (v : Value) (w : World) (hv : TriAt w v l) (hs : ∀ i, (l.getD i (0, 0, 0)).1 < 256 ∧ (l.getD i (0, 0, 0)).2.1 < 256 ∧ (l.getD i (0, 0, 0)).2.2 < 256) (hT : Tabs w) :
    Calls Tryd.prog 8 #[v] w fun e w' => e = .returned (.bool true) ∧ Below w.heap.size w w' := lawO11 theCode11 l v w hT hv hs
end Go.Proofs.YtegkhhegapnkpaaDoor
end
section
open Go Go.RowKit
namespace FF
open WW BB
def zeroB : BlockD := (((0, 0), ((0, ⟨#[]⟩), [])), [])
theorem Keeps.low {A : Nat → Prop} {w w' : World} {n : Nat} (h : Keeps A w w') (hA : ∀ b, b < n → A b) (hn : n ≤ w.heap.size) : Below n w w' :=
  ⟨h.b0.os, h.b0.tape, h.b0.output, h.b0.size, fun k hk => h.block k (hA k hk) (Nat.lt_of_lt_of_le hk hn)⟩
theorem zero_apart : digI zeroB ≠ CC.firstD := dg_apart (JJ.digB 0 0 0 ⟨#[]⟩ []) ⟨#[102, 105, 114, 115, 116]⟩ (by decide) (by decide) (by kernel_rfl)
theorem zero_small : SmallI zeroB := by
  refine ⟨by show (0 : Nat) ≤ 1000; omega, ⟨by show (0 : Nat) ≤ 1000; omega, by show (0 : Nat) ≤ 500000; omega, fun j hj => absurd hj (Nat.not_lt_zero j)⟩, ⟨by show (0 : Nat) ≤ 1000; omega, by show (0 : Nat) ≤ 500000; omega, fun j hj => absurd hj (Nat.not_lt_zero j)⟩⟩
end FF
namespace Go.Proofs.YtegkhhegapnkpaaDoor
open FF JJ CC MM WW BB
theorem zero_put : putF ⟨firstD, 0, [], []⟩ (digI zeroB, zeroB) = (⟨firstD, 0, [], [(digI zeroB, zeroB)]⟩, 0) := by
  have h1 : hasF ⟨firstD, 0, [], []⟩ (digI zeroB) = false := by
    unfold hasF
    rw [decide_eq_false (show ¬ digI zeroB = firstD from zero_apart)]; rfl
  have h2 : hasF ⟨firstD, 0, [], []⟩ (parI zeroB) = false := by
    unfold hasF
    rw [decide_eq_false (show ¬ parI zeroB = firstD from fun e => by
      have := congrArg ByteArray.size e
      rw [firstD_size] at this
      cases this)]; rfl
  rw [put_wait (by rw [h1]; simp [atI]) h2]
  rfl
theorem notab_of {w : World} (hT : Tabs w) : ∀ b, w.heap.size ≤ b → NoTab b := fun b hb => ⟨fun e => by have := hT.l1; omega, fun e => by have := hT.l2; omega, fun e => by have := hT.l3; omega⟩
set_option maxRecDepth 100000 in
set_option maxHeartbeats 4000000 in
theorem gawake_any (w : World) (hT : Tabs w) : Calls Tryd.prog 18 #[] w fun e w' => e = .returned (.bool true) ∧ Below w.heap.size w w' := by
  have HT := Lib.hid hT
  clear hT
  go_enter Tryd.func18, Tryd.ntmps18
  go_wp2_with fail
  refine (gnew_any w.heap.size w (Nat.le_refl _)).mono ?_
  rintro e w1 ⟨rfl, hc1, hb1⟩
  have C1 := Lib.hid hc1
  have B1 := Lib.hid hb1
  clear hc1 hb1
  have HPU := Lib.hid (gput_any C1.out (tabs_on HT.out B1.out) (notab_of HT.out) ⟨by show (0 : Int) ≤ 0; omega, by show (0 : Int) ≤ 1000000000; omega⟩ zeroB (.slice none 0 0) (.slice none 0 0) ⟨none, 0, rfl, Or.inl rfl⟩ ⟨none, 0, rfl, Or.inl rfl⟩ zero_small)
  go_wp2_with fail
  refine HPU.out.mono ?_
  rintro e w2 ⟨rfl, mv, ov, N, O, C, hc2, hk2, _⟩
  rw [zero_put] at hc2 ⊢
  have C2 := Lib.hid hc2
  have B2 := Lib.hid (B1.out.trans (hk2.low (n := w.heap.size) (fun b hb hm => by have := C1.out.ownB b hm; omega) B1.out.size))
  clear hc2 hk2
  go_wp2_with fail
  refine (gorph_any C2.out).mono ?_
  rintro e w3 ⟨u, rfl, hu, hb3⟩
  obtain ⟨a, c, rfl, _⟩ := hu
  have B3 := Lib.hid (B2.out.trans (hb3.mono B2.out.size))
  clear hb3
  go_wp2_with fail
  go_ret
  exact ⟨rfl, B3.out⟩
end Go.Proofs.YtegkhhegapnkpaaDoor
end
section
open Go Go.RowKit
namespace FF
open WW BB
theorem put_root (F : Fo) (x : It) : (putF F x).1.root = F.root ∧ (putF F x).1.height = F.height := by
  unfold putF
  split
  · exact ⟨rfl, rfl⟩
  · split
    · split <;> exact ⟨rfl, rfl⟩
    · split
      · exact ⟨rfl, rfl⟩
      · obtain ⟨h1, h2⟩ := adopt_root 10 (standF F x).1
        exact ⟨by rw [h1, stand_root], by rw [h2, stand_height]⟩
/-- the forest behind so many blocks -/
def playF (l : List BlockD) : Fo := l.foldl (fun F b => (putF F (digI b, b)).1) ⟨CC.firstD, 0, [], []⟩
theorem play_snoc (l : List BlockD) (i : Nat) (hi : i < l.length) : playF (l.take (i + 1)) = (putF (playF (l.take i)) (digI (l.getD i (((0, 0), ((0, ⟨#[]⟩), [])), [])), l.getD i (((0, 0), ((0, ⟨#[]⟩), [])), []))).1 := by
  unfold playF
  rw [List.take_add_one, List.getElem?_eq_getElem hi, List.foldl_append, List.getD_eq_getElem?_getD, List.getElem?_eq_getElem hi]
  rfl
theorem dig_size (b : BlockD) : (digI b).size = 32 := by
  unfold digI; exact JJ.digD_size _ _ _ _ _
theorem gset4 {w : World} {a : Nat} {f : Nat → Value} (h : Blk w a 4 f) (u0 u1 u2 u3 : Value) :
    Blk ((((w.setCell ⟨a, 0, none⟩ u0).setCell ⟨a, 1, none⟩ u1).setCell ⟨a, 2, none⟩ u2).setCell ⟨a, 3, none⟩ u3) a 4 (rowL [u0, u1, u2, u3]) ∧ Upd a w ((((w.setCell ⟨a, 0, none⟩ u0).setCell ⟨a, 1, none⟩ u1).setCell ⟨a, 2, none⟩ u2).setCell ⟨a, 3, none⟩ u3) := by
  refine ⟨((((h.set 0 u0).set 1 u1).set 2 u2).set 3 u3).congr _ fun i hi => ?_, ((((Upd.refl a w).trans (Upd.set _ _ _ _)).trans (Upd.set _ _ _ _)).trans (Upd.set _ _ _ _)).trans (Upd.set _ _ _ _)⟩
  match i, hi with
  | 0, _ => rfl
  | 1, _ => rfl
  | 2, _ => rfl
  | 3, _ => rfl
end FF
namespace Go.Proofs.YtegkhhegapnkpaaDoor
open FF JJ CC MM WW BB
/-- neither the code's forest's own blocks nor the box -/
def AwayP (g r : Nat) (mv ov : Value) (C : Nat → Prop) (b : Nat) : Prop := ¬ MineB g mv ov C b ∧ b ≠ r
structure TwM (B g r : Nat) (F G : Fo) (wr : World) (rt : ByteArray) (mv ov : Value) (N O : List Iv) (C : Nat → Prop) (na : Option Addr) (nn nc : Nat) (oa : Option Addr) (ow oc : Nat) : Prop where
  code : CFs B wr g F rt mv ov N O C
  ne : ∀ c, MineB g mv ov C c → c ≠ r
  blk : Blk wr r 4 (rowL [.string G.root, .int .i64 G.height, .slice na nn nc, .slice oa ow oc])
  fo : FoD (AwayP g r mv ov C) wr G (.slice na nn nc) (.slice oa ow oc)
  wf : WF G
  rB : B ≤ r
  tabs : Tabs wr
section
variable {B g r : Nat} {F G : Fo} {wr w2 : World} {rt : ByteArray} {mv ov : Value} {N O : List Iv} {C : Nat → Prop} {na : Option Addr} {nn nc : Nat} {oa : Option Addr} {ow oc : Nat}
theorem TwM.on (h : TwM B g r F G wr rt mv ov N O C na nn nc oa ow oc) (hb : Below wr.heap.size wr w2) : TwM B g r F G w2 rt mv ov N O C na nn nc oa ow oc :=
  ⟨h.code.on hb, h.ne, h.blk.below hb h.blk.lt, h.fo.on (Keeps.of hb), h.wf, h.rB, tabs_on h.tabs hb⟩
/-- another forest is stored in the box -/
theorem TwM.moved {G' : Fo} {na' oa' : Option Addr} {nn' nc' on' oc' n : Nat} (h : TwM B g r F G wr rt mv ov N O C na nn nc oa ow oc) (hf : FoD (fun b => AwayP g r mv ov C b ∨ n ≤ b) wr G' (.slice na' nn' nc') (.slice oa' on' oc')) (hn : ∀ b, MineB g mv ov C b → b < n) (hr : r < n)
    (hu : Upd r wr w2) (hb : Blk w2 r 4 (rowL [.string G'.root, .int .i64 G'.height, .slice na' nn' nc', .slice oa' on' oc'])) (hw : WF G') (hNT : NoTab r) : TwM B g r F G' w2 rt mv ov N O C na' nn' nc' oa' on' oc' := by
  have hk : ∀ {A : Nat → Prop}, (∀ b, A b → b ≠ r) → Keeps A wr w2 := fun hA => Keeps.upd hu hA
  refine ⟨h.code.keep (hk h.ne), h.ne, hb, (hf.on (hk fun b hb => ?_)).more fun b hb _ => ?_, hw, h.rB, tabs_keeps h.tabs (A := fun b => b ≠ r) (hk fun _ hb => hb) fun b => ?_⟩
  · rcases hb with hb | hb
    · exact hb.2
    · omega
  · rcases hb with hb | hb
    · exact hb
    · exact ⟨fun hm => by have := hn b hm; omega, by omega⟩
  · by_cases e : b = r
    · subst e; exact Or.inl hNT
    · exact Or.inr e
end
/-- both forests: the code's in block g, the reference's in the box r -/
def TwSt (w0 : World) (g r : Nat) (F G : Fo) (wr : World) : Prop :=
  (∃ rt mv ov N O C na nn nc oa ow oc, TwM w0.heap.size g r F G wr rt mv ov N O C na nn nc oa ow oc) ∧ Below w0.heap.size w0 wr
theorem TwSt.on {w0 : World} {g r : Nat} {F G : Fo} {wr w2 : World} (h : TwSt w0 g r F G wr) (hb : Below wr.heap.size wr w2) : TwSt w0 g r F G w2 := by
  obtain ⟨⟨rt, mv, ov, N, O, C, na, nn, nc, oa, on, oc, h⟩, h2⟩ := h
  exact ⟨⟨rt, mv, ov, N, O, C, na, nn, nc, oa, on, oc, h.on hb⟩, h2.trans (hb.mono h2.size)⟩
/-- the code's Put -/
theorem tw_put {w0 : World} {g r : Nat} {F G : Fo} {wr : World} (h : TwSt w0 g r F G wr) (hT : Tabs w0) (hH : 0 ≤ F.height ∧ F.height ≤ 1000000000) (b : BlockD) (hb : SmallI b) (R : Fo × Int) (hR : putF F (digI b, b) = R) (v p j : Int) (k : ByteArray) (h1 : viewI b = v) (h2 : propI b = p) (h3 : jvI b = j) (h4 : parI b = k) (sv rv : Value) (hv : SigsAt wr sv (sigsI b)) (hr : ReqsAt wr rv b.2) :
    Calls Tryd.prog 21 #[.pointer (some ⟨g, 0, none⟩), .agg #[.int .i64 v, .int .i64 p, .int .i64 j, .string k, sv, rv]] wr fun e w' => e = .returned (.int .i64 R.2) ∧ TwSt w0 g r R.1 G w' := by
  obtain ⟨⟨rt, mv, ov, N, O, C, na, nn, nc, oa, on, oc, hm⟩, hbl⟩ := h
  subst h1 h2 h3 h4 hR
  refine (gput_any hm.code hm.tabs (notab_of hT) hH b sv rv hv hr hb).mono ?_
  rintro e w' ⟨rfl, mv', ov', N', O', C', hc', hk, hnew⟩
  have hrl := hm.blk.lt
  have hnr : ¬ MineB g mv ov C r := fun c => hm.ne r c rfl
  refine ⟨rfl, ⟨rt, mv', ov', N', O', C', na, nn, nc, oa, on, oc, ⟨hc', fun c hc => ?_, hm.blk.of_heap (hk.block r hnr hrl), (hm.fo.cut.on (hk.sub fun c hc _ => hc.1.1)).more fun c hc _ => ⟨fun hmc => ?_, hc.1.2⟩, hm.wf, hm.rB, tabs_keeps hm.tabs hk fun c => ?_⟩⟩, hbl.trans (hk.low (fun c hcl hmc => by have := hm.code.ownB c hmc; omega) hbl.size)⟩
  · rcases hnew c hc with hc | hc
    · exact hm.ne c hc
    · omega
  · rcases hnew c hmc with h | h
    · exact hc.1.1 h
    · have := hc.2; omega
  · by_cases hmc : MineB g mv ov C c
    · exact Or.inl (notab_of hT c (hm.code.ownB c hmc))
    · exact Or.inr hmc
/-- what the reference's Put hands back -/
def RputP (A : Nat → Prop) (wr : World) (R : Fo × Int) (u : Value) (w' : World) : Prop :=
  ∃ na' nn' nc' oa' ow' oc', u = .tuple #[.agg #[.string R.1.root, .int .i64 R.1.height, .slice na' nn' nc', .slice oa' ow' oc'], .int .i64 R.2] ∧ FoD (fun b => A b ∨ wr.heap.size ≤ b) w' R.1 (.slice na' nn' nc') (.slice oa' ow' oc') ∧ Below wr.heap.size wr w'
theorem tw_rput {A : Nat → Prop} {G : Fo} {wr : World} {nv ov : Value} (hf : FoD A wr G nv ov) (hw : WF G) (b : BlockD) (hb : SmallI b) (R : Fo × Int) (hR : putF G (digI b, b) = R) (v p j : Int) (k : ByteArray) (h1 : viewI b = v) (h2 : propI b = p) (h3 : jvI b = j) (h4 : parI b = k) (sv rv : Value)
    (hd : Dep A wr (fun w' => SigsAt w' sv (sigsI b) ∧ ReqsAt w' rv b.2)) :
    Calls Tryd.prog 31 #[.agg #[.string G.root, .int .i64 G.height, nv, ov], .agg #[.int .i64 v, .int .i64 p, .int .i64 j, .string k, sv, rv]] wr fun e w' => ∃ u, e = .returned u ∧ RputP A wr R u w' := by
  subst h1 h2 h3 h4 hR
  refine (fput_any A G b sv rv _ _ wr hf hd (Nat.le_trans hw.n400 (by omega)) (Nat.le_trans hw.o8 (by omega)) hb.1 hb.2.1 hb.2.2).mono ?_
  rintro e w' ⟨nv', ov', rfl, hfo, hbl⟩
  obtain ⟨N', O', _, _, i1, i2⟩ := hfo.now
  obtain ⟨x1, x2, rfl⟩ := iv_shape i1
  obtain ⟨x3, x4, rfl⟩ := iv_shape i2
  obtain ⟨e1, e2⟩ := put_root G (digI b, b)
  exact ⟨_, rfl, x1, _, x2, x3, _, x4, by rw [e1, e2], hfo, hbl⟩
/-- another forest lies in a new box y, that of the reference still in r -/
def TwX (w0 : World) (g r y : Nat) (F G G' : Fo) (wx : World) : Prop :=
  ∃ rt mv ov N O C na nn nc oa ow oc na' nn' nc' oa' ow' oc' n, TwM w0.heap.size g r F G wx rt mv ov N O C na nn nc oa ow oc ∧ Below w0.heap.size w0 wx ∧ Blk wx y 4 (rowL [.string G'.root, .int .i64 G'.height, .slice na' nn' nc', .slice oa' ow' oc']) ∧
    FoD (fun b => AwayP g r mv ov C b ∨ n ≤ b) wx G' (.slice na' nn' nc') (.slice oa' ow' oc') ∧ (∀ b, MineB g mv ov C b → b < n) ∧ r < n ∧ y ≠ r ∧ WF G'
/-- it is stored in r -/
theorem TwX.moved {w0 : World} {g r : Nat} {F G G' : Fo} {wr w2 : World} {rt : ByteArray} {mv ov : Value} {N O : List Iv} {C : Nat → Prop} {na : Option Addr} {nn nc : Nat} {oa : Option Addr} {ow oc : Nat} {na' oa' : Option Addr} {nn' nc' ow' oc' n : Nat} (h : TwM w0.heap.size g r F G wr rt mv ov N O C na nn nc oa ow oc) (hb0 : Below w0.heap.size w0 wr)
    (hf : FoD (fun b => AwayP g r mv ov C b ∨ n ≤ b) wr G' (.slice na' nn' nc') (.slice oa' ow' oc')) (hn : ∀ b, MineB g mv ov C b → b < n) (hr : r < n) (hT : Tabs w0)
    (hu : Upd r wr w2) (hb : Blk w2 r 4 (rowL [.string G'.root, .int .i64 G'.height, .slice na' nn' nc', .slice oa' ow' oc'])) (hw : WF G') : TwSt w0 g r F G' w2 :=
  ⟨⟨rt, mv, ov, N, O, C, na', nn', nc', oa', ow', oc', h.moved hf hn hr hu hb hw (notab_of hT r h.rB)⟩, hb0.trans (hu.below h.rB)⟩
/-- what lies below rests upon what is neither's -/
theorem TwM.low {w0 : World} {g r : Nat} {F G : Fo} {wr : World} {rt : ByteArray} {mv ov : Value} {N O : List Iv} {C : Nat → Prop} {na : Option Addr} {nn nc : Nat} {oa : Option Addr} {ow oc : Nat} (h : TwM w0.heap.size g r F G wr rt mv ov N O C na nn nc oa ow oc) (hb : Below w0.heap.size w0 wr) : ∀ c, c < w0.heap.size → AwayP g r mv ov C c ∧ c < wr.heap.size :=
  fun c hc => ⟨⟨fun hm => by have := h.code.ownB c hm; omega, by have := h.rB; omega⟩, by have := hb.size; omega⟩
end Go.Proofs.YtegkhhegapnkpaaDoor
end
section
open Go Go.RowKit
namespace RR
open FF JJ CC WW BB MM
/-- all that a forest has is of some blocks -/
def FromF (F : Fo) (p : BlockD → Prop) : Prop := ∀ x ∈ F.nodes ++ F.orph, p x.2
theorem stand_from {F : Fo} {p : BlockD → Prop} (h : FromF F p) {x : It} (hx : p x.2) : FromF (standF F x).1 p := by
  unfold standF
  split
  · exact h
  · split
    · exact h
    · intro y hy
      have hy : y ∈ (F.nodes ++ [x]) ++ F.orph := hy
      rw [List.mem_append, List.mem_append, List.mem_singleton] at hy
      rcases hy with (hy | rfl) | hy
      · exact h y (List.mem_append_left _ hy)
      · exact hx
      · exact h y (List.mem_append_right _ hy)
theorem adopt_from {p : BlockD → Prop} : ∀ (m : Nat) (F : Fo), FromF F p → FromF (adoptF m F) p
  | 0, F, h => h
  | m + 1, F, h => by
    unfold adoptF
    split
    · exact h
    · rename_i i hi
      obtain ⟨hl, _⟩ := gready_some hi
      refine adopt_from m _ (stand_from (fun y hy => ?_) (h _ (List.mem_append_right _ ?_)))
      · have hy : y ∈ F.nodes ++ F.orph.eraseIdx i := hy
        rcases List.mem_append.1 hy with hy | hy
        · exact h y (List.mem_append_left _ hy)
        · exact h y (List.mem_append_right _ (List.mem_of_mem_eraseIdx hy))
      · rw [List.getD_eq_getElem?_getD, List.getElem?_eq_getElem hl]
        exact List.getElem_mem hl
theorem put_from {F : Fo} {p : BlockD → Prop} (h : FromF F p) {x : It} (hx : p x.2) : FromF (putF F x).1 p := by
  unfold putF
  split
  · exact h
  · split
    · split
      · exact h
      · intro y hy
        have hy : y ∈ F.nodes ++ (F.orph ++ [x]) := hy
        rw [List.mem_append, List.mem_append, List.mem_singleton] at hy
        rcases hy with hy | hy | rfl
        · exact h y (List.mem_append_left _ hy)
        · exact h y (List.mem_append_right _ hy)
        · exact hx
    · split
      · exact h
      · exact adopt_from _ _ (stand_from h hx)
theorem play_from {p : BlockD → Prop} (l : List BlockD) (hl : ∀ b ∈ l, p b) : FromF (playF l) p := by
  have key : ∀ (l : List BlockD) (F : Fo), (∀ b ∈ l, p b) → FromF F p → FromF (l.foldl (fun F b => (putF F (digI b, b)).1) F) p := by
    intro l
    induction l with
    | nil => exact fun _ _ h => h
    | cons b r ih => exact fun F hl h => ih _ (fun c hc => hl c (List.mem_cons_of_mem _ hc)) (put_from h (hl b (List.mem_cons_self ..)))
  exact key l _ hl fun x hx => by simp at hx
theorem rplay_wf (l : List BlockD) : WF (playF l) ∧ (playF l).height = 0 ∧ (playF l).root = CC.firstD := by
  have key : ∀ (l : List BlockD) (F : Fo), WF F → WF (l.foldl (fun F b => (putF F (digI b, b)).1) F) ∧ (l.foldl (fun F b => (putF F (digI b, b)).1) F).height = F.height ∧ (l.foldl (fun F b => (putF F (digI b, b)).1) F).root = F.root := by
    intro l
    induction l with
    | nil => exact fun F h => ⟨h, rfl, rfl⟩
    | cons b r ih =>
      intro F h
      obtain ⟨h1, h2, h3⟩ := ih _ (put_wf h (x := (digI b, b)) (dig_size b))
      obtain ⟨e1, e2⟩ := put_root F (digI b, b)
      exact ⟨h1, h2.trans e2, h3.trans e1⟩
  exact key l _ (new_wf _ CC.firstD_size)
/-- a struct of a text, a number and two slices: neither items nor requests lie there -/
def ForestBlk (w : World) (r : Nat) : Prop := ∃ s n a0 n0 c0 a1 n1 c1, Blk w r 4 (rowL [.string s, .int .i64 n, .slice a0 n0 c0, .slice a1 n1 c1])
theorem blk_none {w : World} {r n : Nat} {f : Nat → Value} (h : Blk w r n f) (i : Nat) (hi : n ≤ i) : w.cell? ⟨r, i, none⟩ = none := by
  obtain ⟨t, h⟩ := h
  unfold World.cell?; rw [h]; simp [row, hi]
theorem reqs_upd {w w' : World} {r : Nat} (hr : ForestBlk w r) (hu : Upd r w w') {v : Value} {l : List (Int × Int × ByteArray)} (h : ReqsAt w v l) : ReqsAt w' v l := by
  obtain ⟨a0, cap, rfl, h | ⟨b, off, rfl, hl, hc⟩⟩ := h
  · exact ⟨_, _, rfl, Or.inl h⟩
  · by_cases h0 : l = []
    · exact ⟨_, _, rfl, Or.inl h0⟩
    have hb : b ≠ r := by
      rintro rfl
      obtain ⟨s, n, a0, n0, c0, a1, n1, c1, hB⟩ := hr
      obtain ⟨k1, k2, _⟩ := hc 0 (List.length_pos_iff.2 h0)
      rw [Nat.zero_mul, Nat.add_zero] at k1 k2
      match off with
      | 0 => rw [hB.get 0 (by omega)] at k1; cases k1
      | 1 => rw [hB.get 2 (by omega)] at k2; cases k2
      | 2 => rw [hB.get 2 (by omega)] at k1; cases k1
      | 3 => rw [hB.get 3 (by omega)] at k1; cases k1
      | n + 4 => rw [blk_none hB (n + 4) (by omega)] at k1; cases k1
    refine ⟨_, _, rfl, Or.inr ⟨b, off, rfl, by rw [hu.size]; exact hl, fun i hi => ?_⟩⟩
    obtain ⟨k1, k2, k3⟩ := hc i hi
    exact ⟨(World.cell?_of_block (w := w) (a := ⟨b, off + i * 3, none⟩) (hu.block b hb)).trans k1, (World.cell?_of_block (w := w) (a := ⟨b, off + i * 3 + 1, none⟩) (hu.block b hb)).trans k2, (World.cell?_of_block (w := w) (a := ⟨b, off + i * 3 + 2, none⟩) (hu.block b hb)).trans k3⟩
theorem iv_upd {w w' : World} {r : Nat} (hr : ForestBlk w r) (hu : Upd r w w') {v : Value} {L : List Iv} (hs : ∀ x ∈ L, sigsI x.1.2 = []) (h : IvAt w v L) : IvAt w' v L := by
  obtain ⟨a0, cap, rfl, h | ⟨b, off, rfl, hl, hc⟩⟩ := h
  · exact ⟨_, _, rfl, Or.inl h⟩
  · by_cases h0 : L = []
    · exact ⟨_, _, rfl, Or.inl h0⟩
    have hb : b ≠ r := by
      rintro rfl
      obtain ⟨s, n, a0, n0, c0, a1, n1, c1, hB⟩ := hr
      have k := (hc 0 (List.length_pos_iff.2 h0)).1 6 _ rfl
      rw [Nat.zero_mul, Nat.add_zero, blk_none hB (off + 6) (by omega)] at k
      cases k
    refine ⟨_, _, rfl, Or.inr ⟨b, off, rfl, by rw [hu.size]; exact hl, fun i hi => ⟨fun j u hj => ?_, ?_, ?_⟩⟩⟩
    · exact (World.cell?_of_block (w := w) (a := ⟨b, off + i * 7 + j, none⟩) (hu.block b hb)).trans ((hc i hi).1 j u hj)
    · obtain ⟨a2, c2, e, _⟩ := (hc i hi).2.1
      have hx : sigsI (L.getD i v0).1.2 = [] := by
        rw [List.getD_eq_getElem?_getD, List.getElem?_eq_getElem hi]
        exact hs _ (List.getElem_mem hi)
      exact ⟨a2, c2, e, Or.inl hx⟩
    · exact reqs_upd hr hu (hc i hi).2.2
theorem fo_upd {w w' : World} {r : Nat} (hr : ForestBlk w r) (hu : Upd r w w') {F : Fo} {nv ov : Value} (hs : FromF F (fun b => sigsI b = [])) (h : FoAt w F nv ov) : FoAt w' F nv ov := by
  obtain ⟨N, O, h1, h2, h3, h4⟩ := h
  refine ⟨N, O, h1, h2, iv_upd hr hu (fun x hx => hs x.1 ?_) h3, iv_upd hr hu (fun x hx => hs x.1 ?_) h4⟩
  · rw [← h1]; exact List.mem_append_left _ (List.mem_map.2 ⟨x, hx, rfl⟩)
  · rw [← h2]; exact List.mem_append_right _ (List.mem_map.2 ⟨x, hx, rfl⟩)
end RR
end
section
open Go Go.RowKit
namespace FF
open JJ CC WW BB MM
/-- the block at a digest, or none -/
def GotF (F : Fo) (h : ByteArray) (b : BlockD) (bb : Bool) : Prop := (bb = true ∧ (h, b) ∈ F.nodes) ∨ (bb = false ∧ b = bd0 ∧ ¬ 0 ≤ atI F.nodes h)
def GetB (w : World) (b : BlockD) (bb : Bool) (e : Ending) (w' : World) : Prop :=
  ∃ a0 cap a1 cap1, e = .returned (.tuple #[.agg #[.int .i64 (viewI b), .int .i64 (propI b), .int .i64 (jvI b), .string (parI b), .slice a0 (sigsI b).length cap, .slice a1 b.2.length cap1], .bool bb]) ∧ SigsNew w.heap.size w' (.slice a0 (sigsI b).length cap) (sigsI b) ∧
    ReqsAt w' (.slice a1 b.2.length cap1) b.2 ∧ (∀ c, (Value.slice a1 b.2.length cap1).ownBlock = some c → w.heap.size ≤ c) ∧ Below w.heap.size w w'
theorem small_bd0 : SmallI bd0 := ⟨by decide, ⟨by decide, by decide, fun i hi => absurd hi (Nat.not_lt_zero i)⟩, by decide, by decide, fun i hi => absurd hi (Nat.not_lt_zero i)⟩
theorem sl_slT {w : World} {v : Value} {a : Option Addr} {n c : Nat} {l : List (Int × List ByteArray)} (h : SigsAt w v l) (e : slT v = (a, n, c)) : SigsAt w (.slice a n c) l ∧ n = l.length := by
  obtain ⟨a0, cap, rfl, h'⟩ := h
  simp only [slT, Prod.mk.injEq] at e
  obtain ⟨rfl, rfl, rfl⟩ := e
  exact ⟨⟨_, _, rfl, h'⟩, rfl⟩
theorem rl_slT {w : World} {v : Value} {a : Option Addr} {n c : Nat} {l : List (Int × Int × ByteArray)} (h : ReqsAt w v l) (e : slT v = (a, n, c)) : ReqsAt w (.slice a n c) l ∧ n = l.length := by
  obtain ⟨a0, cap, rfl, h'⟩ := h
  simp only [slT, Prod.mk.injEq] at e
  obtain ⟨rfl, rfl, rfl⟩ := e
  exact ⟨⟨_, _, rfl, h'⟩, rfl⟩
end FF
namespace Go.Proofs.YtegkhhegapnkpaaDoor
open FF JJ CC MM WW BB
theorem got_entry {B : Nat} {w : World} {g : Nat} {F : Fo} {rt : ByteArray} {mv ov : Value} {N O : List Iv} {C : Nat → Prop} (hC : CFs B w g F rt mv ov N O C) (h : ByteArray) (bb : Bool) {v p j : Int} {k : ByteArray} {a1 : Option Addr} {n1 c1 : Nat} {a2 : Option Addr} {n2 c2 : Nat} {t : Int}
    (hb : (entF F N h).isSome = bb) (hx : (entF F N h).getD zE = ((v, p, j, k), (a1, n1, c1), (a2, n2, c2), t)) :
    ∃ b : BlockD, viewI b = v ∧ propI b = p ∧ jvI b = j ∧ parI b = k ∧ SigsAt w (.slice a1 n1 c1) (sigsI b) ∧ ReqsAt w (.slice a2 n2 c2) b.2 ∧ SmallI b ∧ GotF F h b bb := by
  cases bb with
  | false =>
    have hn : entF F N h = none := by cases he : entF F N h with | none => rfl | some s => rw [he] at hb; cases hb
    rw [hn] at hx
    simp only [Option.getD_none, zE, Prod.mk.injEq] at hx
    obtain ⟨⟨rfl, rfl, rfl, rfl⟩, ⟨rfl, rfl, rfl⟩, ⟨rfl, rfl, rfl⟩, rfl⟩ := hx
    refine ⟨bd0, rfl, rfl, rfl, rfl, ⟨none, 0, rfl, Or.inl rfl⟩, ⟨none, 0, rfl, Or.inl rfl⟩, small_bd0, Or.inr ⟨rfl, rfl, fun c => ?_⟩⟩
    have := ent_some (F := F) hC.nodes h
    rw [hn, decide_eq_true c] at this
    cases this
  | true =>
    obtain ⟨h0, _, _, _, x, hxN, hxh, hxe, e1, e2, e3, e4, e5, e6⟩ := ent_node hC.wf hC.nodes hb hx
    have hm : x ∈ N ++ O := List.mem_append_left _ hxN
    obtain ⟨i1, i2⟩ := hC.innN x hm
    refine ⟨x.1.2, e1, e2, e3, e4, (sl_slT i1 e5).1, (rl_slT i2 e6).1, hC.small x hm, Or.inl ⟨rfl, ?_⟩⟩
    rw [← hC.nodes]
    exact List.mem_map.2 ⟨x, hxN, by rw [← hxh]⟩
set_option maxRecDepth 100000 in
set_option maxHeartbeats 4000000 in
theorem gget_any {B : Nat} {w : World} {g : Nat} {F : Fo} {rt : ByteArray} {mv ov : Value} {N O : List Iv} {C : Nat → Prop} (hC : CFs B w g F rt mv ov N O C) (h : ByteArray) (hs : h.size ≤ 1000000) :
    Calls Tryd.prog 95 #[.pointer (some ⟨g, 0, none⟩), .string h] w fun e w' => ∃ b bb, GotF F h b bb ∧ GetB w b bb e w' := by
  have HC := Lib.hid hC
  have HS := Lib.hid (show h.size ≤ maxLen by unfold maxLen; omega)
  have X1 := Lib.hid ((Below.refl w.heap.size w).alloc (Nat.le_refl _) (.cells #[.int .i64 0, .int .i64 0, .int .i64 0, .string ⟨#[]⟩, .slice none 0 0, .slice none 0 0] 29))
  have c2 := (hC.on X1.out).c2
  obtain ⟨mp, rfl⟩ := hC.shapeM
  obtain ⟨v, p, j, k, a1, n1, k1, a2, n2, k2, t, hx⟩ := sv_parts ((entF F N h).getD zE)
  have HX := Lib.hid hx
  obtain ⟨bb, hb⟩ : ∃ bb, (entF F N h).isSome = bb := ⟨_, rfl⟩
  have HB := Lib.hid hb
  have HMA := Lib.hid (hC.on X1.out).map
  obtain ⟨b, q1, q2, q3, q4, q5, q6, q7, q8⟩ := got_entry hC h bb hb hx
  have HQ := Lib.hid (And.intro q5 (And.intro q6 q7))
  have HG := Lib.hid q8
  have HL := Lib.hid (And.intro (And.intro q1 q2) (And.intro q3 q4))
  have X2 := Lib.hid (X1.out.alloc X1.out.size (.cells #[.int .i64 v, .int .i64 p, .int .i64 j, .string k, .slice a1 n1 k1, .slice a2 n2 k2, .int .i64 t] 135))
  have RR0 := Lib.hid (show Blk ((w.alloc (.cells #[.int .i64 0, .int .i64 0, .int .i64 0, .string ⟨#[]⟩, .slice none 0 0, .slice none 0 0] 29)).alloc (.cells #[.int .i64 v, .int .i64 p, .int .i64 j, .string k, .slice a1 n1 k1, .slice a2 n2 k2, .int .i64 t] 135)) w.heap.size 6 (rowL [.int .i64 0, .int .i64 0, .int .i64 0, .string ⟨#[]⟩, .slice none 0 0, .slice none 0 0]) from (Blk.new' rfl (rowL6 _ _ _ _ _ _)).alloc _)
  obtain ⟨gq, hgq⟩ : ∃ gq, w.heap.size = gq := ⟨_, rfl⟩
  have HGQ := Lib.hid hgq
  clear hC hs hx hb q1 q2 q3 q4 q5 q6 q7 q8 hgq
  go_enter Tryd.func95, Tryd.ntmps95
  go_wp2_with (at_lookup; refine wpl_look_ok _ _ h v p j k a1 n1 k1 a2 n2 k2 t bb HX.out HB.out rfl rfl (by kernel_rfl) (by kernel_rfl) zero_sv HMA.out rfl rfl HS.out ?_)
  refine (gcopied_any v p j k _ _ (sigsI b) b.2 _ (HQ.out.1.later X2.out) (HQ.out.2.1.later X2.out) HQ.out.2.2.2.1.1 (small_tags HQ.out.2.2.2.1) (Nat.le_trans HQ.out.2.2.2.2.1 (by omega))).mono ?_
  rintro e w3 ⟨a0, cap, a3, cap3, rfl, hsn, hrn, hon, hb3⟩
  have HSN := Lib.hid hsn
  have HRN := Lib.hid hrn
  have HON := Lib.hid hon
  have B3 := Lib.hid hb3
  have RR := Lib.hid (RR0.out.below hb3 RR0.out.lt)
  clear hsn hrn hon hb3
  have c0 := RR.out.get 0 (by omega)
  have c1 := RR.out.get 1 (by omega)
  have c2' := RR.out.get 2 (by omega)
  have c3 := RR.out.get 3 (by omega)
  have c4 := RR.out.get 4 (by omega)
  have c5 := RR.out.get 5 (by omega)
  have f0 := RR.out.frz 0
  have f1 := RR.out.frz 1
  have f2 := RR.out.frz 2
  have f3 := RR.out.frz 3
  have f4 := RR.out.frz 4
  have f5 := RR.out.frz 5
  go_wp2_with fail
  clear c0 c1 c2' c3 c4 c5 f0 f1 f2 f3 f4 f5
  obtain ⟨xi, ui⟩ := set6 RR.out (.int .i64 v) (.int .i64 p) (.int .i64 j) (.string k) (.slice a0 (sigsI b).length cap) (.slice a3 b.2.length cap3)
  have p0 : World.cell? _ ⟨w.heap.size, 0, none⟩ = some (.int .i64 v) := xi.get 0 (by omega)
  have p1 : World.cell? _ ⟨w.heap.size, 1, none⟩ = some (.int .i64 p) := xi.get 1 (by omega)
  have p2 : World.cell? _ ⟨w.heap.size, 2, none⟩ = some (.int .i64 j) := xi.get 2 (by omega)
  have p3 : World.cell? _ ⟨w.heap.size, 3, none⟩ = some (.string k) := xi.get 3 (by omega)
  have p4 : World.cell? _ ⟨w.heap.size, 4, none⟩ = some (.slice a0 (sigsI b).length cap) := xi.get 4 (by omega)
  have p5 : World.cell? _ ⟨w.heap.size, 5, none⟩ = some (.slice a3 b.2.length cap3) := xi.get 5 (by omega)
  refine bodyPost_ret (v := .tuple #[.agg #[.int .i64 v, .int .i64 p, .int .i64 j, .string k, .slice a0 (sigsI b).length cap, .slice a3 b.2.length cap3], .bool bb]) (by simp [results, Tryd.results95, go_sem, p0, p1, p2, p3, p4, p5]) rfl ?_
  refine ⟨b, bb, HG.out, a0, cap, a3, cap3, ?_, (HSN.out.keep (Nat.le_of_eq ui.size.symm) (fun c hc _ => ui.block c (by have := RR0.out.lt; omega))).mono (Nat.le_of_lt RR0.out.lt), reqs_keep HRN.out (by rw [ui.size]; exact Nat.le_refl _) (fun c hc _ => ui.block c (by have := HON.out c hc; have := RR0.out.lt; omega)), fun c hc => Nat.le_trans (Nat.le_of_lt RR0.out.lt) (HON.out c hc), (X2.out.trans (B3.out.mono X2.out.size)).trans (ui.below (Nat.le_refl _))⟩
  rw [HL.out.1.1, HL.out.1.2, HL.out.2.1, HL.out.2.2]
end Go.Proofs.YtegkhhegapnkpaaDoor
end
section
open Go Go.RowKit
namespace RR
open FF JJ CC WW BB
/-- the block that stands at a digest -/
def findF (F : Fo) (h : ByteArray) : Option BlockD := if 0 ≤ atI F.nodes h then some (F.nodes.getD (atI F.nodes h).toNat i0).2 else none
/-- one view more, as the numbers go -/
def nextV (v : Int) : Int := IntKind.i64.wrap (v + 1)
/-- the block that a certificate of a view is for -/
def certF (F : Fo) (v : Int) (h : ByteArray) : Option BlockD := (findF F h).bind fun b => if viewI b = v then some b else none
/-- its parent, one view ahead -/
def aheadF (F : Fo) (b : BlockD) : Option BlockD := (findF F (parI b)).bind fun p => if viewI b = nextV (viewI p) then some p else none
def learnS (F : Fo) (s : St) (v : Int) (h : ByteArray) : St :=
  match certF F v h with
  | some b => (s.1, max s.2 (jvI b))
  | none => s
def commitF (F : Fo) (v : Int) (h : ByteArray) : ByteArray × Bool :=
  match certF F v h with
  | some b => match aheadF F b with
    | some p => match aheadF F p with
      | some _ => (parI p, true)
      | none => (⟨#[]⟩, false)
    | none => (⟨#[]⟩, false)
  | none => (⟨#[]⟩, false)
theorem find_got {F : Fo} (hF : WF F) {h : ByteArray} {b : BlockD} {bb : Bool} (hg : GotF F h b bb) : findF F h = if bb = true then some b else none := by
  rcases hg with ⟨rfl, hm⟩ | ⟨rfl, rfl, hn⟩
  · have h0 : 0 ≤ atI F.nodes h := (at_mem _ _).2 ⟨_, hm, rfl⟩
    unfold findF
    rw [if_pos h0, if_pos rfl, show F.nodes.getD (atI F.nodes h).toNat i0 = (h, b) from at_node hF.nodup hm]
  · unfold findF
    rw [if_neg hn, if_neg (by decide)]
theorem learn_up (F : Fo) (s : St) (v : Int) (h : ByteArray) : s.2 ≤ (learnS F s v h).2 ∧ (learnS F s v h).1 = s.1 := by
  unfold learnS
  split
  · exact ⟨by show s.2 ≤ max s.2 _; omega, rfl⟩
  · exact ⟨Int.le_refl _, rfl⟩
end RR
end
section
open Go Go.RowKit
namespace RR
open FF JJ CC WW BB MM
/-- a block's numbers and its parent, or the zero block's -/
def IsO (o : Option BlockD) (v p j : Int) (k : ByteArray) (bb : Bool) : Prop :=
  (bb = true ∧ ∃ b, o = some b ∧ viewI b = v ∧ propI b = p ∧ jvI b = j ∧ parI b = k ∧ SmallI b) ∨ (bb = false ∧ o = none ∧ v = 0 ∧ p = 0 ∧ j = 0 ∧ k = ⟨#[]⟩)
theorem IsO.k1000 {o : Option BlockD} {v p j : Int} {k : ByteArray} {bb : Bool} (h : IsO o v p j k bb) : k.size ≤ 1000 := by
  rcases h with ⟨_, b, _, _, _, _, rfl, h⟩ | ⟨_, _, _, _, _, rfl⟩
  · exact h.1
  · decide
theorem IsO.no {o : Option BlockD} {v p j : Int} {k : ByteArray} (h : IsO o v p j k false) : o = none ∧ v = 0 ∧ p = 0 ∧ j = 0 ∧ k = ⟨#[]⟩ := by
  rcases h with ⟨h, _⟩ | ⟨_, h⟩
  · cases h
  · exact h
theorem IsO.yes {o : Option BlockD} {v p j : Int} {k : ByteArray} (h : IsO o v p j k true) : ∃ b, o = some b ∧ viewI b = v ∧ propI b = p ∧ jvI b = j ∧ parI b = k ∧ SmallI b := by
  rcases h with ⟨_, h⟩ | ⟨h, _⟩
  · exact h
  · cases h
theorem IsO.zero (o : Option BlockD) (h : o = none) : IsO o 0 0 0 ⟨#[]⟩ false := Or.inr ⟨rfl, h, rfl, rfl, rfl, rfl⟩
/-- a block that is answered, or none -/
def BAns (w : World) (o : Option BlockD) (e : Ending) (w' : World) : Prop :=
  ∃ v p j k a0 n0 c0 a1 n1 c1 bb, e = .returned (.tuple #[.agg #[.int .i64 v, .int .i64 p, .int .i64 j, .string k, .slice a0 n0 c0, .slice a1 n1 c1], .bool bb]) ∧ IsO o v p j k bb ∧ Below w.heap.size w w'
theorem cert_yes {F : Fo} {v : Int} {h : ByteArray} {b : BlockD} (h1 : findF F h = some b) (h2 : viewI b = v) : certF F v h = some b := by unfold certF; rw [h1]; exact if_pos h2
theorem cert_no {F : Fo} {v : Int} {h : ByteArray} (h1 : findF F h = none ∨ ∃ b, findF F h = some b ∧ viewI b ≠ v) : certF F v h = none := by
  unfold certF
  rcases h1 with h1 | ⟨b, h1, h2⟩
  · rw [h1]; rfl
  · rw [h1]; exact if_neg h2
theorem ahead_yes {F : Fo} {b p : BlockD} (h1 : findF F (parI b) = some p) (h2 : viewI b = nextV (viewI p)) : aheadF F b = some p := by unfold aheadF; rw [h1]; exact if_pos h2
theorem ahead_no {F : Fo} {b : BlockD} (h1 : findF F (parI b) = none ∨ ∃ p, findF F (parI b) = some p ∧ viewI b ≠ nextV (viewI p)) : aheadF F b = none := by
  unfold aheadF
  rcases h1 with h1 | ⟨p, h1, h2⟩
  · rw [h1]; rfl
  · rw [h1]; exact if_neg h2
end RR
namespace Go.Proofs.YtegkhhegapnkpaaDoor
open RR FF JJ CC MM WW BB
theorem rget_any {B : Nat} {w : World} {g : Nat} {F : Fo} {rt : ByteArray} {mv ov : Value} {N O : List Iv} {C : Nat → Prop} (hC : CFs B w g F rt mv ov N O C) (h : ByteArray) (hs : h.size ≤ 1000000) :
    Calls Tryd.prog 95 #[.pointer (some ⟨g, 0, none⟩), .string h] w (BAns w (findF F h)) := by
  refine (gget_any hC h hs).mono ?_
  rintro e w' ⟨b, bb, hg, a0, cap, a1, cap1, rfl, _, _, _, hb⟩
  refine ⟨_, _, _, _, _, _, _, _, _, _, bb, rfl, ?_, hb⟩
  have hf := find_got hC.wf hg
  rcases hg with ⟨rfl, hm⟩ | ⟨rfl, rfl, _⟩
  · refine Or.inl ⟨rfl, b, by rw [hf]; rfl, rfl, rfl, rfl, rfl, ?_⟩
    rw [← hC.nodes] at hm
    obtain ⟨x, hx, e⟩ := List.mem_map.1 hm
    have := hC.small x (List.mem_append_left _ hx)
    rw [show x.1.2 = b by rw [e]] at this
    exact this
  · exact Or.inr ⟨rfl, by rw [hf]; rfl, rfl, rfl, rfl, rfl⟩
/-- the code's forest is F, in a world that stands upon w0 -/
def CodeF (g : Nat) (F : Fo) (w : World) : Prop := ∃ B rt mv ov N O C, CFs B w g F rt mv ov N O C
theorem CodeF.on {g : Nat} {F : Fo} {w w' : World} (h : CodeF g F w) (hb : Below w.heap.size w w') : CodeF g F w' := by
  obtain ⟨B, rt, mv, ov, N, O, C, h⟩ := h
  exact ⟨B, rt, mv, ov, N, O, C, h.on hb⟩
theorem rget_is {g : Nat} {F : Fo} {w : World} (h : CodeF g F w) (d : ByteArray) (hs : d.size ≤ 1000000) :
    Calls Tryd.prog 95 #[.pointer (some ⟨g, 0, none⟩), .string d] w (BAns w (findF F d)) := by
  obtain ⟨B, rt, mv, ov, N, O, C, h⟩ := h
  exact rget_any h d hs
set_option maxRecDepth 100000 in
set_option maxHeartbeats 4000000 in
theorem certified_any {g : Nat} {F : Fo} {w : World} (hC : CodeF g F w) (cv : Int) (ch : ByteArray) (ca : Option Addr) (cn cc : Nat) (hs : ch.size ≤ 1000000) :
    Calls Tryd.prog 100 #[.pointer (some ⟨g, 0, none⟩), .agg #[.int .i64 cv, .string ch, .slice ca cn cc]] w (BAns w (certF F cv ch)) := by
  have HC := Lib.hid hC
  have HS := Lib.hid hs
  have X2 := Lib.hid (((Below.refl w.heap.size w).alloc (Nat.le_refl _) (.cells #[.int .i64 cv, .string ch, .slice ca cn cc] 24)).alloc (by simp) (.cells #[.int .i64 0, .int .i64 0, .int .i64 0, .string ⟨#[]⟩, .slice none 0 0, .slice none 0 0] 29))
  have R0 := Lib.hid (show Blk ((w.alloc (.cells #[.int .i64 cv, .string ch, .slice ca cn cc] 24)).alloc (.cells #[.int .i64 0, .int .i64 0, .int .i64 0, .string ⟨#[]⟩, .slice none 0 0, .slice none 0 0] 29)) w.heap.size 3 (rowL [.int .i64 cv, .string ch, .slice ca cn cc]) from (Blk.new' rfl (row3_ _ _ _)).alloc _)
  have R1 := Lib.hid (show Blk ((w.alloc (.cells #[.int .i64 cv, .string ch, .slice ca cn cc] 24)).alloc (.cells #[.int .i64 0, .int .i64 0, .int .i64 0, .string ⟨#[]⟩, .slice none 0 0, .slice none 0 0] 29)) (w.heap.size + 1) 6 (rowL [.int .i64 0, .int .i64 0, .int .i64 0, .string ⟨#[]⟩, .slice none 0 0, .slice none 0 0]) from Blk.new' (by simp) (row6_ _ _ _ _ _ _))
  clear hC hs
  go_enter Tryd.func100, Tryd.ntmps100
  go_wp2_with fail
  refine (rget_is (HC.out.on X2.out) ch HS.out).mono ?_
  rintro e w3 ⟨v, p, j, k, a0, n0, c0, a1, n1, c1, bb, rfl, ho, hb3⟩
  have HO := Lib.hid ho
  have X3 := Lib.hid (X2.out.trans (hb3.mono X2.out.size))
  have X4 := Lib.hid (X3.out.alloc X3.out.size (.cells #[.int .i64 v, .int .i64 p, .int .i64 j, .string k, .slice a0 n0 c0, .slice a1 n1 c1] 29))
  have C0 := Lib.hid ((R0.out.below hb3 R0.out.lt).alloc (.cells #[.int .i64 v, .int .i64 p, .int .i64 j, .string k, .slice a0 n0 c0, .slice a1 n1 c1] 29))
  have C1 := Lib.hid ((R1.out.below hb3 R1.out.lt).alloc (.cells #[.int .i64 v, .int .i64 p, .int .i64 j, .string k, .slice a0 n0 c0, .slice a1 n1 c1] 29))
  have C2 := Lib.hid (show Blk (w3.alloc (.cells #[.int .i64 v, .int .i64 p, .int .i64 j, .string k, .slice a0 n0 c0, .slice a1 n1 c1] 29)) w3.heap.size 6 (rowL [.int .i64 v, .int .i64 p, .int .i64 j, .string k, .slice a0 n0 c0, .slice a1 n1 c1]) from Blk.new' rfl (row6_ _ _ _ _ _ _))
  clear ho hb3
  obtain ⟨e0, e1, e2, e3, e4, e5⟩ := cells6 C1.out
  obtain ⟨g0, g1, g2, g3, g4, g5⟩ := cells6 C2.out
  have f0 := C1.out.frz 0
  have f1 := C1.out.frz 1
  have f2 := C1.out.frz 2
  have f3 := C1.out.frz 3
  have f4 := C1.out.frz 4
  have f5 := C1.out.frz 5
  obtain ⟨d0, _, _⟩ := cells3 C0.out
  cases bb with
  | false =>
    go_wp2_with fail
    obtain ⟨xi, ui⟩ := rset6 C1.out (.int .i64 0) (.int .i64 0) (.int .i64 0) (.string ⟨#[]⟩) (.slice none 0 0) (.slice none 0 0)
    obtain ⟨p0, p1, p2, p3, p4, p5⟩ := cells6 xi
    refine bodyPost_ret (v := .tuple #[.agg #[.int .i64 0, .int .i64 0, .int .i64 0, .string ⟨#[]⟩, .slice none 0 0, .slice none 0 0], .bool false]) (by simp [results, Tryd.results100, go_sem, p0, p1, p2, p3, p4, p5]) rfl ?_
    exact ⟨0, 0, 0, ⟨#[]⟩, none, 0, 0, none, 0, 0, false, rfl, IsO.zero _ (cert_no (Or.inl HO.out.no.1)), X4.out.trans (ui.below (by omega))⟩
  | true =>
    by_cases hv : v = cv
    · subst hv
      go_wp2_with fail
      obtain ⟨b, h1, h2, h3, h4, h5, h6⟩ := HO.out.yes
      obtain ⟨xi, ui⟩ := rset6 C1.out (.int .i64 v) (.int .i64 p) (.int .i64 j) (.string k) (.slice a0 n0 c0) (.slice a1 n1 c1)
      obtain ⟨p0, p1, p2, p3, p4, p5⟩ := cells6 xi
      refine bodyPost_ret (v := .tuple #[.agg #[.int .i64 v, .int .i64 p, .int .i64 j, .string k, .slice a0 n0 c0, .slice a1 n1 c1], .bool true]) (by simp [results, Tryd.results100, go_sem, p0, p1, p2, p3, p4, p5]) rfl ?_
      exact ⟨v, p, j, k, a0, n0, c0, a1, n1, c1, true, rfl, Or.inl ⟨rfl, b, cert_yes h1 h2, h2, h3, h4, h5, h6⟩, X4.out.trans (ui.below (by omega))⟩
    · have HV := Lib.hid hv
      have t1 : (v == cv) = false := beq_eq_false_iff_ne.2 hv
      clear hv
      go_wp2_with fail
      obtain ⟨b, h1, h2, h3, h4, h5, h6⟩ := HO.out.yes
      obtain ⟨xi, ui⟩ := rset6 C1.out (.int .i64 0) (.int .i64 0) (.int .i64 0) (.string ⟨#[]⟩) (.slice none 0 0) (.slice none 0 0)
      obtain ⟨p0, p1, p2, p3, p4, p5⟩ := cells6 xi
      refine bodyPost_ret (v := .tuple #[.agg #[.int .i64 0, .int .i64 0, .int .i64 0, .string ⟨#[]⟩, .slice none 0 0, .slice none 0 0], .bool false]) (by simp [results, Tryd.results100, go_sem, p0, p1, p2, p3, p4, p5]) rfl ?_
      exact ⟨0, 0, 0, ⟨#[]⟩, none, 0, 0, none, 0, 0, false, rfl, IsO.zero _ (cert_no (Or.inr ⟨b, h1, fun e => HV.out (h2.symm.trans e)⟩)), X4.out.trans (ui.below (by omega))⟩
set_option maxRecDepth 100000 in
set_option maxHeartbeats 4000000 in
theorem ahead_any {g : Nat} {F : Fo} {w : World} (hC : CodeF g F w) (x : BlockD) (cv cp cj : Int) (ch : ByteArray) (ca : Option Addr) (cn cc : Nat) (cb : Option Addr) (cm cd : Nat) (hs : ch.size ≤ 1000000) (hx : viewI x = cv) (hy : parI x = ch) :
    Calls Tryd.prog 101 #[.pointer (some ⟨g, 0, none⟩), .agg #[.int .i64 cv, .int .i64 cp, .int .i64 cj, .string ch, .slice ca cn cc, .slice cb cm cd]] w (BAns w (aheadF F x)) := by
  have HC := Lib.hid hC
  have HS := Lib.hid hs
  have HX := Lib.hid (And.intro hx hy)
  have X2 := Lib.hid (((Below.refl w.heap.size w).alloc (Nat.le_refl _) (.cells #[.int .i64 cv, .int .i64 cp, .int .i64 cj, .string ch, .slice ca cn cc, .slice cb cm cd] 29)).alloc (by simp) (.cells #[.int .i64 0, .int .i64 0, .int .i64 0, .string ⟨#[]⟩, .slice none 0 0, .slice none 0 0] 29))
  have R0 := Lib.hid (show Blk ((w.alloc (.cells #[.int .i64 cv, .int .i64 cp, .int .i64 cj, .string ch, .slice ca cn cc, .slice cb cm cd] 29)).alloc (.cells #[.int .i64 0, .int .i64 0, .int .i64 0, .string ⟨#[]⟩, .slice none 0 0, .slice none 0 0] 29)) w.heap.size 6 (rowL [.int .i64 cv, .int .i64 cp, .int .i64 cj, .string ch, .slice ca cn cc, .slice cb cm cd]) from (Blk.new' rfl (row6_ _ _ _ _ _ _)).alloc _)
  have R1 := Lib.hid (show Blk ((w.alloc (.cells #[.int .i64 cv, .int .i64 cp, .int .i64 cj, .string ch, .slice ca cn cc, .slice cb cm cd] 29)).alloc (.cells #[.int .i64 0, .int .i64 0, .int .i64 0, .string ⟨#[]⟩, .slice none 0 0, .slice none 0 0] 29)) (w.heap.size + 1) 6 (rowL [.int .i64 0, .int .i64 0, .int .i64 0, .string ⟨#[]⟩, .slice none 0 0, .slice none 0 0]) from Blk.new' (by simp) (row6_ _ _ _ _ _ _))
  clear hC hs hx hy
  go_enter Tryd.func101, Tryd.ntmps101
  go_wp2_with fail
  refine (parent_any cv cp cj ch ca cb cn cc cm cd _).mono ?_
  rintro e w2 ⟨rfl, hb2⟩
  have Y2 := Lib.hid (X2.out.trans (hb2.mono X2.out.size))
  have S0 := Lib.hid (R0.out.below hb2 R0.out.lt)
  have S1 := Lib.hid (R1.out.below hb2 R1.out.lt)
  clear hb2
  go_wp2_with fail
  refine (rget_is (HC.out.on Y2.out) ch HS.out).mono ?_
  rintro e w3 ⟨v, p, j, k, a0, n0, c0, a1, n1, c1, bb, rfl, ho, hb3⟩
  have HO := Lib.hid ho
  have X3 := Lib.hid (Y2.out.trans (hb3.mono Y2.out.size))
  have X4 := Lib.hid (X3.out.alloc X3.out.size (.cells #[.int .i64 v, .int .i64 p, .int .i64 j, .string k, .slice a0 n0 c0, .slice a1 n1 c1] 29))
  have C0 := Lib.hid ((S0.out.below hb3 S0.out.lt).alloc (.cells #[.int .i64 v, .int .i64 p, .int .i64 j, .string k, .slice a0 n0 c0, .slice a1 n1 c1] 29))
  have C1 := Lib.hid ((S1.out.below hb3 S1.out.lt).alloc (.cells #[.int .i64 v, .int .i64 p, .int .i64 j, .string k, .slice a0 n0 c0, .slice a1 n1 c1] 29))
  have C2 := Lib.hid (show Blk (w3.alloc (.cells #[.int .i64 v, .int .i64 p, .int .i64 j, .string k, .slice a0 n0 c0, .slice a1 n1 c1] 29)) w3.heap.size 6 (rowL [.int .i64 v, .int .i64 p, .int .i64 j, .string k, .slice a0 n0 c0, .slice a1 n1 c1]) from Blk.new' rfl (row6_ _ _ _ _ _ _))
  clear ho hb3
  obtain ⟨e0, e1, e2, e3, e4, e5⟩ := cells6 C1.out
  obtain ⟨g0, g1, g2, g3, g4, g5⟩ := cells6 C2.out
  have f0 := C1.out.frz 0
  have f1 := C1.out.frz 1
  have f2 := C1.out.frz 2
  have f3 := C1.out.frz 3
  have f4 := C1.out.frz 4
  have f5 := C1.out.frz 5
  obtain ⟨d0, d1, d2, d3, d4, d5⟩ := cells6 C0.out
  cases bb with
  | false =>
    go_wp2_with fail
    obtain ⟨xi, ui⟩ := rset6 C1.out (.int .i64 0) (.int .i64 0) (.int .i64 0) (.string ⟨#[]⟩) (.slice none 0 0) (.slice none 0 0)
    obtain ⟨p0, p1, p2, p3, p4, p5⟩ := cells6 xi
    refine bodyPost_ret (v := .tuple #[.agg #[.int .i64 0, .int .i64 0, .int .i64 0, .string ⟨#[]⟩, .slice none 0 0, .slice none 0 0], .bool false]) (by simp [results, Tryd.results101, go_sem, p0, p1, p2, p3, p4, p5]) rfl ?_
    exact ⟨0, 0, 0, ⟨#[]⟩, none, 0, 0, none, 0, 0, false, rfl, IsO.zero _ (ahead_no (Or.inl (by rw [HX.out.2]; exact HO.out.no.1))), X4.out.trans (ui.below (by omega))⟩
  | true =>
    obtain ⟨nv, hnv⟩ : ∃ nv, IntKind.i64.wrap (v + 1) = nv := ⟨_, rfl⟩
    have HNV := Lib.hid (show nextV v = nv from hnv)
    by_cases hv : cv = nv
    · obtain rfl : nv = cv := hv.symm
      go_wp2_with fail
      obtain ⟨b, h1, h2, h3, h4, h5, h6⟩ := HO.out.yes
      obtain ⟨xi, ui⟩ := rset6 C1.out (.int .i64 v) (.int .i64 p) (.int .i64 j) (.string k) (.slice a0 n0 c0) (.slice a1 n1 c1)
      obtain ⟨p0, p1, p2, p3, p4, p5⟩ := cells6 xi
      refine bodyPost_ret (v := .tuple #[.agg #[.int .i64 v, .int .i64 p, .int .i64 j, .string k, .slice a0 n0 c0, .slice a1 n1 c1], .bool true]) (by simp [results, Tryd.results101, go_sem, p0, p1, p2, p3, p4, p5]) rfl ?_
      exact ⟨v, p, j, k, a0, n0, c0, a1, n1, c1, true, rfl, Or.inl ⟨rfl, b, ahead_yes (by rw [HX.out.2]; exact h1) (by rw [HX.out.1, h2]; exact HNV.out.symm), h2, h3, h4, h5, h6⟩, X4.out.trans (ui.below (by omega))⟩
    · have HV := Lib.hid hv
      have t1 : (cv == nv) = false := beq_eq_false_iff_ne.2 hv
      clear hv
      go_wp2_with fail
      obtain ⟨b, h1, h2, h3, h4, h5, h6⟩ := HO.out.yes
      obtain ⟨xi, ui⟩ := rset6 C1.out (.int .i64 0) (.int .i64 0) (.int .i64 0) (.string ⟨#[]⟩) (.slice none 0 0) (.slice none 0 0)
      obtain ⟨p0, p1, p2, p3, p4, p5⟩ := cells6 xi
      refine bodyPost_ret (v := .tuple #[.agg #[.int .i64 0, .int .i64 0, .int .i64 0, .string ⟨#[]⟩, .slice none 0 0, .slice none 0 0], .bool false]) (by simp [results, Tryd.results101, go_sem, p0, p1, p2, p3, p4, p5]) rfl ?_
      exact ⟨0, 0, 0, ⟨#[]⟩, none, 0, 0, none, 0, 0, false, rfl, IsO.zero _ (ahead_no (Or.inr ⟨b, by rw [HX.out.2]; exact h1, fun e => HV.out (by rw [← HX.out.1, e, h2]; exact HNV.out)⟩)), X4.out.trans (ui.below (by omega))⟩
end Go.Proofs.YtegkhhegapnkpaaDoor
end
section
open Go Go.RowKit
namespace RR
open FF JJ CC WW BB MM
theorem bv_upd {w w' : World} {r : Nat} (hr : ForestBlk w r) (hu : Upd r w w') {v : Value} {L : List Bv} (hs : ∀ x ∈ L, sigsI x.1 = []) (h : BvAt w v L) : BvAt w' v L := by
  obtain ⟨a0, cap, rfl, h | ⟨b, off, rfl, hl, hc⟩⟩ := h
  · exact ⟨_, _, rfl, Or.inl h⟩
  · by_cases h0 : L = []
    · exact ⟨_, _, rfl, Or.inl h0⟩
    have hb : b ≠ r := by
      rintro rfl
      obtain ⟨s, n, a0, n0, c0, a1, n1, c1, hB⟩ := hr
      have k := (hc 0 (List.length_pos_iff.2 h0)).1 5 _ rfl
      have k0 := (hc 0 (List.length_pos_iff.2 h0)).1 0 _ rfl
      rw [Nat.zero_mul, Nat.add_zero] at k k0
      by_cases ho : off = 0
      · subst ho
        rw [blk_none hB (0 + 5) (by omega)] at k
        cases k
      · rw [blk_none hB (off + 5) (by omega)] at k
        cases k
    refine ⟨_, _, rfl, Or.inr ⟨b, off, rfl, by rw [hu.size]; exact hl, fun i hi => ⟨fun j u hj => ?_, ?_, ?_⟩⟩⟩
    · exact (World.cell?_of_block (w := w) (a := ⟨b, off + i * 6 + j, none⟩) (hu.block b hb)).trans ((hc i hi).1 j u hj)
    · obtain ⟨a2, c2, e, _⟩ := (hc i hi).2.1
      have hx : sigsI (L.getD i vb0).1 = [] := by
        rw [List.getD_eq_getElem?_getD, List.getElem?_eq_getElem hi]
        exact hs _ (List.getElem_mem hi)
      exact ⟨a2, c2, e, Or.inl hx⟩
    · exact reqs_upd hr hu (hc i hi).2.2
end RR
namespace Go.Proofs.YtegkhhegapnkpaaDoor
open RR FF JJ CC MM WW BB
/-- what the law's own forest is -/
def MadeAns (w : World) (l : List (Nat × Nat × Nat)) (u : Value) (w' : World) : Prop :=
  ∃ g na nn nc oa ow oc ua uc L, u = .tuple #[.pointer (some ⟨g, 0, none⟩), .agg #[.string (playF (chainL l l.length)).root, .int .i64 (playF (chainL l l.length)).height, .slice na nn nc, .slice oa ow oc], .slice ua L.length uc] ∧ CodeF g (playF (chainL l l.length)) w' ∧ FoAt w' (playF (chainL l l.length)) (.slice na nn nc) (.slice oa ow oc) ∧
    BvAt w' (.slice ua L.length uc) L ∧ L.map Prod.fst = chainL l l.length ∧ Below w.heap.size w w'
set_option maxRecDepth 100000 in
set_option maxHeartbeats 8000000 in
theorem made_any (l : List (Nat × Nat × Nat)) (lv : Value) (w : World) (hv : TriAt w lv l) (hsm : ∀ i, (l.getD i (0, 0, 0)).1 < 256 ∧ (l.getD i (0, 0, 0)).2.1 < 256 ∧ (l.getD i (0, 0, 0)).2.2 < 256) (h30 : l.length ≤ 30) (hT : Tabs w) :
    Calls Tryd.prog 39 #[lv] w fun e w' => ∃ u, e = .returned u ∧ MadeAns w l u w' := by
  have HT := Lib.hid hT
  have HV := Lib.hid hv
  have HSM := Lib.hid hsm
  obtain ⟨la0, lc0, rfl, _⟩ := hv
  have X0 := Lib.hid ((Below.refl w.heap.size w).alloc (Nat.le_refl _) (.cells #[.string ⟨#[]⟩, .int .i64 0, .slice none 0 0, .slice none 0 0] 54))
  have L0 := Lib.hid (show Blk (w.alloc (.cells #[.string ⟨#[]⟩, .int .i64 0, .slice none 0 0, .slice none 0 0] 54)) w.heap.size 4 (rowL [.string ⟨#[]⟩, .int .i64 0, .slice none 0 0, .slice none 0 0]) from Blk.new' rfl (row4_ _ _ _ _))
  have H30 := Lib.hid h30
  have HL := Lib.hid (show l.length ≤ 1000000 by omega)
  clear hT hsm h30
  go_enter Tryd.func39, Tryd.ntmps39
  go_wp2_with fail
  refine (chain_any l _ _ (HV.out.later X0.out) HSM.out HL.out).mono ?_
  rintro e w2 ⟨u, rfl, L, hmap, hbv, hb2⟩
  have HM0 := Lib.hid hmap
  rw [show min l.length 40 = l.length by have := H30.out; omega] at hmap
  have HMAP := Lib.hid hmap
  have HLN := Lib.hid (show L.length = l.length by have := congrArg List.length hmap; rwa [List.length_map, chain_len] at this)
  have HBV := Lib.hid hbv
  have X2 := Lib.hid (X0.out.trans (hb2.mono X0.out.size))
  have L2 := Lib.hid (L0.out.below hb2 L0.out.lt)
  have HT2 := Lib.hid (tabs_on HT.out X2.out)
  obtain ⟨la, lc, rfl⟩ := bv_shape hbv
  clear hmap hbv hb2 HM0
  go_wp2_with fail
  refine (gnew_any w2.heap.size w2 (Nat.le_refl _)).mono ?_
  rintro e w3 ⟨rfl, hc3, hb3⟩
  have HC3 := Lib.hid hc3
  have X3 := Lib.hid hb3
  clear hc3 hb3
  go_wp2_with fail
  refine (fnew_any w3).mono ?_
  rintro e w4 ⟨rfl, hb4⟩
  have X4 := Lib.hid hb4
  clear hb4
  go_wp2_with fail
  obtain ⟨r, hr⟩ : ∃ r, w4.heap.size = r := ⟨_, rfl⟩
  have S5 := Lib.hid (show TwSt w2 w2.heap.size w4.heap.size (playF ((L.map Prod.fst).take 0)) (playF ((L.map Prod.fst).take 0)) (w4.alloc (.cells #[.string firstD, .int .i64 0, .slice none 0 0, .slice none 0 0] 54)) from by
    have hc4 := HC3.out.on X4.out
    have ha : Below w4.heap.size w4 (w4.alloc (.cells #[.string firstD, .int .i64 0, .slice none 0 0, .slice none 0 0] 54)) := (Below.refl _ _).alloc (Nat.le_refl _) _
    have hl4 : w2.heap.size < w4.heap.size := Nat.lt_of_lt_of_le HC3.out.blk.lt X4.out.size
    have hb4 := X3.out.trans (X4.out.mono X3.out.size)
    exact ⟨⟨_, _, _, _, _, _, _, _, _, _, _, _, ⟨hc4.on ha, fun c hc => by rcases hc with rfl | hc | hc | hc <;> first | omega | cases hc | exact hc.elim, Blk.new' rfl rfl, ⟨[], [], rfl, rfl, fun _ _ => ⟨iv_nil _ _ _, iv_nil _ _ _⟩⟩, new_wf _ firstD_size, by omega, tabs_on (tabs_on HT2.out hb4) ha⟩⟩, hb4.trans (ha.mono (by omega))⟩)
  obtain ⟨g, hg⟩ : ∃ g, w2.heap.size = g := ⟨_, rfl⟩
  rw [hr, hg] at S5
  rw [hr, hg]
  clear hr hg
  obtain ⟨bs, hbs⟩ : ∃ bs, L.map Prod.fst = bs := ⟨_, rfl⟩
  have HBL := Lib.hid (show ∀ j, j < l.length → (L.getD j vb0).1 = bs.getD j bd0 from fun j hj => by rw [← hbs, bmap_getD L j (by have := HLN.out; omega)])
  have HSB := Lib.hid (show ∀ j, SmallI (bs.getD j bd0) from fun j => by
    rw [← hbs, HMAP.out]
    by_cases hj : j < (chainL l l.length).length
    · rw [getD_at hj]; exact (chain_small l l.length _ (List.getElem_mem hj)).1
    · rw [List.getD_eq_getElem?_getD, List.getElem?_eq_none (by omega)]; exact small_bd0)
  have HBN := Lib.hid (show bs.length = l.length by rw [← hbs, List.length_map]; exact HLN.out)
  rw [hbs] at S5
  have HPLW := Lib.hid (show ∀ i, WF (playF (bs.take i)) ∧ (playF (bs.take i)).height = 0 ∧ (playF (bs.take i)).root = firstD from fun i => rplay_wf _)
  have hbs' := Lib.hid (show bs = chainL l l.length from hbs.symm.trans HMAP.out)
  clear hbs
  go_loopw [8] (fun y wx => ∃ i : Nat, i ≤ l.length ∧ y = .int .i64 (i : Int) ∧ TwSt w2 g r (playF (bs.take i)) (playF (bs.take i)) wx) (fun y _ => l.length - (intOf y).toNat)
  case atStart => exact ⟨0, Nat.zero_le _, rfl, S5.out⟩
  case round =>
    obtain ⟨i, hi, rfl, hst⟩ := hrel
    have i0 : (0 : Int) ≤ (i : Int) := by omega
    have ib : (i : Int) ≤ 30 := by have := H30.out; omega
    by_cases hlt : i < l.length
    · have hlt' : (i : Int) < (L.length : Int) := by rw [HLN.out]; omega
      have HLT := Lib.hid hlt
      obtain ⟨⟨rt, mv, ov, N, O, C, na, nn, nc, oa, ow, oc, hM⟩, hbz⟩ := hst
      have HM := Lib.hid hM
      have HBZ := Lib.hid hbz
      obtain ⟨F, hF⟩ : ∃ F, playF (bs.take i) = F := ⟨_, rfl⟩
      obtain ⟨R, hR⟩ : ∃ R, putF F (digI (bs.getD i bd0), bs.getD i bd0) = R := ⟨_, rfl⟩
      have HF := Lib.hid hF
      have HR := Lib.hid hR
      have HF1 := Lib.hid (show playF (bs.take (i + 1)) = R.1 by rw [play_snoc bs i (by rw [HBN.out]; exact hlt), hF, ← hR]; rfl)
      have HFP := Lib.hid (hF ▸ HPLW.out i)
      have HWR := Lib.hid (show WF R.1 by rw [← HF1.out]; exact (HPLW.out _).1)
      rw [hF] at HM
      obtain ⟨lb, loff, rfl, _, _, hat⟩ := bv_at HBV.out 0 (by rw [HLN.out]; omega)
      have HAT := Lib.hid hat
      obtain ⟨P, hP⟩ : ∃ P, L.getD i vb0 = P := ⟨_, rfl⟩
      have HPB := Lib.hid (show P.1 = bs.getD i bd0 by rw [← hP]; exact HBL.out i hlt)
      have HSP := Lib.hid (show SmallI P.1 by rw [HPB.out]; exact HSB.out i)
      have HRP := Lib.hid (show putF F (digI P.1, P.1) = R by rw [HPB.out]; exact hR)
      obtain ⟨pv, hpv⟩ : ∃ pv, viewI P.1 = pv := ⟨_, rfl⟩
      obtain ⟨pp, hpp⟩ : ∃ pp, propI P.1 = pp := ⟨_, rfl⟩
      obtain ⟨pj, hpj⟩ : ∃ pj, jvI P.1 = pj := ⟨_, rfl⟩
      obtain ⟨pk, hpk⟩ : ∃ pk, parI P.1 = pk := ⟨_, rfl⟩
      obtain ⟨ps, hps⟩ : ∃ ps, P.2.1 = ps := ⟨_, rfl⟩
      obtain ⟨pr, hpr⟩ : ∃ pr, P.2.2 = pr := ⟨_, rfl⟩
      have HA0 := Lib.hid (show ∀ wr, Below w2.heap.size w2 wr → wr.cell? ⟨lb, loff + i * 6, none⟩ = some (.int .i64 pv) ∧ wr.cell? ⟨lb, loff + i * 6 + 1, none⟩ = some (.int .i64 pp) ∧ wr.cell? ⟨lb, loff + i * 6 + 2, none⟩ = some (.int .i64 pj) ∧
          wr.cell? ⟨lb, loff + i * 6 + 3, none⟩ = some (.string pk) ∧ wr.cell? ⟨lb, loff + i * 6 + 4, none⟩ = some ps ∧ wr.cell? ⟨lb, loff + i * 6 + 5, none⟩ = some pr ∧ SigsAt wr ps (sigsI P.1) ∧ ReqsAt wr pr P.1.2 from fun wr hb => by
        have h := HAT.out wr hb i (by rw [HLN.out]; exact HLT.out)
        rw [hP, hpv, hpp, hpj, hpk] at h
        subst hps hpr
        exact h)
      have HPE := Lib.hid (show viewI P.1 = pv ∧ propI P.1 = pp ∧ jvI P.1 = pj ∧ parI P.1 = pk from ⟨hpv, hpp, hpj, hpk⟩)
      clear hi hlt hM hbz hF hR hat hP hpv hpp hpj hpk hps hpr
      go_upto_region 6 with fail
      go_cut [9, 10] from 21 to 29 (fun s9 _ wx => ∃ y, s9 = .pointer (some ⟨y, 0, none⟩) ∧ TwX w2 g r y F F R.1 wx)
      case first =>
        have HS := Lib.hid (fun (wx : World) (hb : Below wr.heap.size wr wx) => show wx.cell? ⟨r, 0, none⟩ = some (.string F.root) ∧ wx.cell? ⟨r, 1, none⟩ = some (.int .i64 F.height) ∧ wx.cell? ⟨r, 2, none⟩ = some (.slice na nn nc) ∧ wx.cell? ⟨r, 3, none⟩ = some (.slice oa ow oc) ∧ True from by
          have L := HM.out.blk.below hb HM.out.blk.lt
          exact ⟨L.get 0 (by omega), L.get 1 (by omega), L.get 2 (by omega), L.get 3 (by omega), trivial⟩)
        have HCA := Lib.hid (show FoD (fun b => AwayP g r mv ov C b ∧ b < wr.heap.size) wr F _ _ from HM.out.fo.cut)
        have HDE := Lib.hid (fun (wx : World) (hb : Below wr.heap.size wr wx) => show Dep (fun b => AwayP g r mv ov C b ∧ b < wr.heap.size) wx (fun w' => SigsAt w' ps (sigsI P.1) ∧ ReqsAt w' pr P.1.2) from fun w' hk => by
          have h9 := HBZ.out.trans (hb.mono HBZ.out.size)
          have := HA0.out w' (h9.trans (hk.low (HM.out.low HBZ.out) h9.size))
          exact ⟨this.2.2.2.2.2.2.1, this.2.2.2.2.2.2.2⟩)
        go_wp2_with fail
        refine crossE_abs (fun wx => Below wr.heap.size wr wx) 11 [0, 1, 2, 3, 4] 5 9 [(true, 6), (true, 7), (true, 8), (false, 9), (false, 10), (false, 11)] [(false, 5), (true, 6), (true, 7), (true, 8), (false, 10), (false, 11)] (by kernel_rfl) (by kernel_rfl) (fun _ _ d _ _ h => by cases d <;> exact h) fun w5 hs5 => ⟨hs5.below _, ?_⟩
        have Y5 := Lib.hid (show Below wr.heap.size wr w5 from hs5.below _)
        clear hs5
        have hia : (0 : Int) ≤ (i : Int) := by omega
        iterate 5 (refine pre_run _ ?_ rfl rfl ?_ ?_; rotate_left; (focus (intro w' hS; obtain ⟨d0, d1, d2, d3, d4⟩ := HS.out w' hS; obtain ⟨c0, c1, c2, c3, c4, c5, c6⟩ := HA0.out w' (HBZ.out.trans (hS.mono HBZ.out.size)); go_simp; exact rfl)); simp only [Act.put, List.setIfInBounds_toArray, List.set_cons_zero, List.set_cons_succ, List.getElem_toArray, List.getElem_cons_zero, List.getElem_cons_succ])
        refine pre_end ⟨?_, ?_⟩
        · refine pe_call (R := RputP (fun b => AwayP g r mv ov C b ∧ b < wr.heap.size) w5 R) _ rfl rfl (by go_simp) (tw_rput (HCA.out.on (Keeps.of Y5.out)) HFP.out.1 P.1 HSP.out R HRP.out pv pp pj pk HPE.out.1 HPE.out.2.1 HPE.out.2.2.1 HPE.out.2.2.2 ps pr (HDE.out _ Y5.out)) (fun u w' h => by obtain ⟨_, _, _, _, _, _, _, _, h⟩ := h; exact Y5.out.trans (h.mono Y5.out.size)) fun u w6 hr => ?_
          obtain ⟨na', nn', nc', oa', ow', oc', rfl, hfo, hb⟩ := hr
          have Y6 := Lib.hid (Y5.out.trans (hb.mono Y5.out.size))
          have HFO := Lib.hid hfo
          have YN := Lib.hid (show wr.heap.size ≤ w5.heap.size from Y5.out.size)
          have Y56 := Lib.hid hb.size
          clear hb hfo
          simp only [Act.put, List.setIfInBounds_toArray, List.set_cons_zero, List.set_cons_succ, List.getElem_toArray, List.getElem_cons_zero, List.getElem_cons_succ]
          iterate 3 (refine pe_run _ ?_ rfl rfl ?_ ?_; rotate_left; (focus (intro w' hS; go_simp; exact rfl)); simp only [Act.put, List.setIfInBounds_toArray, List.set_cons_zero, List.set_cons_succ, List.getElem_toArray, List.getElem_cons_zero, List.getElem_cons_succ])
          have BA := Lib.hid ((Below.refl w6.heap.size w6).alloc (Nat.le_refl _) (.cells #[.string ⟨#[]⟩, .int .i64 0, .slice none 0 0, .slice none 0 0] 54))
          have Y7 := Lib.hid (Y6.out.trans (BA.out.mono Y6.out.size))
          obtain ⟨y, hy⟩ : ∃ y, w6.heap.size = y := ⟨_, rfl⟩
          have YL := Lib.hid (show wr.heap.size ≤ y by rw [← hy]; exact Y6.out.size)
          have XI := Lib.hid (show Blk (w6.alloc (.cells #[.string ⟨#[]⟩, .int .i64 0, .slice none 0 0, .slice none 0 0] 54)) y 4 (rowL [.string ⟨#[]⟩, .int .i64 0, .slice none 0 0, .slice none 0 0]) from Blk.new' hy.symm rfl)
          have HFO7 := Lib.hid (HFO.out.cut.on (Keeps.of BA.out))
          refine pe_value (w' := w6.alloc (.cells #[.string ⟨#[]⟩, .int .i64 0, .slice none 0 0, .slice none 0 0] 54)) _ (.pointer (some ⟨y, 0, none⟩)) rfl rfl (by rw [← hy]; go_simp) Y7.out ?_
          have YY := Lib.hid hy
          generalize w6.alloc (.cells #[.string ⟨#[]⟩, .int .i64 0, .slice none 0 0, .slice none 0 0] 54) = w7 at *
          simp only [Act.put, List.setIfInBounds_toArray, List.set_cons_zero, List.set_cons_succ, List.getElem_toArray, List.getElem_cons_zero, List.getElem_cons_succ]
          clear hy BA
          have v0 := XI.out.get 0 (by omega)
          have v1 := XI.out.get 1 (by omega)
          have v2 := XI.out.get 2 (by omega)
          have v3 := XI.out.get 3 (by omega)
          have z0 := XI.out.frz 0
          have z1 := XI.out.frz 1
          have z2 := XI.out.frz 2
          have z3 := XI.out.frz 3
          obtain ⟨xi, ui⟩ := gset4 XI.out (.string R.1.root) (.int .i64 R.1.height) (.slice na' nn' nc') (.slice oa' ow' oc')
          have XS := Lib.hid (Y7.out.trans (ui.below YL.out))
          have hfe := (HFO7.out.on (Keeps.upd ui (fun b hb => by have := hb.2; have := YY.out; omega))).more (A' := fun b => (AwayP g r mv ov C b ∧ b < wr.heap.size) ∨ w5.heap.size ≤ b) (fun b hb _ => hb.1)
          refine pe_skip _ rfl rfl (by go_simp) XS.out ?_
          simp only [Act.put, List.getElem_toArray, List.getElem_cons_zero, List.getElem_cons_succ]
          refine pe_last _ rfl ?_
          simp only [List.getElem_toArray, List.getElem_cons_zero, List.getElem_cons_succ]
          clear v0 v1 v2 v3 z0 z1 z2 z3
          have XB := Lib.hid xi
          have HFE := Lib.hid hfe
          clear xi ui hfe
          go_wp2_with fail
          go_meet
          exact ⟨y, rfl, rt, mv, ov, N, O, C, na, nn, nc, oa, ow, oc, na', nn', nc', oa', ow', oc', w5.heap.size, HM.out.on XS.out, HBZ.out.trans (XS.out.mono HBZ.out.size), XB.out, HFE.out.more (fun b hb _ => hb.imp (fun h => h.1) fun h => h), fun b hb => Nat.lt_of_lt_of_le (HM.out.code.ownL b hb) YN.out, Nat.lt_of_lt_of_le HM.out.blk.lt YN.out, by have := HM.out.blk.lt; have := YL.out; omega, HWR.out⟩
        · have BA := Lib.hid ((Below.refl w5.heap.size w5).alloc (Nat.le_refl _) (.cells #[.string ⟨#[]⟩, .int .i64 0, .slice none 0 0, .slice none 0 0] 54))
          have Y6 := Lib.hid (Y5.out.trans (BA.out.mono Y5.out.size))
          obtain ⟨y, hy⟩ : ∃ y, w5.heap.size = y := ⟨_, rfl⟩
          have YL := Lib.hid (show wr.heap.size ≤ y by rw [← hy]; exact Y5.out.size)
          have XI := Lib.hid (show Blk (w5.alloc (.cells #[.string ⟨#[]⟩, .int .i64 0, .slice none 0 0, .slice none 0 0] 54)) y 4 (rowL [.string ⟨#[]⟩, .int .i64 0, .slice none 0 0, .slice none 0 0]) from Blk.new' hy.symm rfl)
          refine pe_value (w' := w5.alloc (.cells #[.string ⟨#[]⟩, .int .i64 0, .slice none 0 0, .slice none 0 0] 54)) _ (.pointer (some ⟨y, 0, none⟩)) rfl rfl (by rw [← hy]; go_simp) Y6.out ?_
          generalize w5.alloc (.cells #[.string ⟨#[]⟩, .int .i64 0, .slice none 0 0, .slice none 0 0] 54) = w7 at *
          simp only [Act.put, List.setIfInBounds_toArray, List.set_cons_zero, List.set_cons_succ, List.getElem_toArray, List.getElem_cons_zero, List.getElem_cons_succ]
          clear hy BA
          refine pe_call (R := RputP (fun b => AwayP g r mv ov C b ∧ b < wr.heap.size) w7 R) _ rfl rfl (by go_simp) (tw_rput (HCA.out.on (Keeps.of Y6.out)) HFP.out.1 P.1 HSP.out R HRP.out pv pp pj pk HPE.out.1 HPE.out.2.1 HPE.out.2.2.1 HPE.out.2.2.2 ps pr (HDE.out _ Y6.out)) (fun u w' h => by obtain ⟨_, _, _, _, _, _, _, _, h⟩ := h; exact Y6.out.trans (h.mono Y6.out.size)) fun u w6 hr => ?_
          obtain ⟨na', nn', nc', oa', ow', oc', rfl, hfo, hb⟩ := hr
          have Y7 := Lib.hid (Y6.out.trans (hb.mono Y6.out.size))
          have HFO := Lib.hid hfo
          have YN := Lib.hid (show wr.heap.size ≤ w7.heap.size from Y6.out.size)
          have YLT := Lib.hid (show y < w7.heap.size from XI.out.lt)
          have XJ := Lib.hid (XI.out.below hb XI.out.lt)
          clear hb hfo XI
          simp only [Act.put, List.setIfInBounds_toArray, List.set_cons_zero, List.set_cons_succ, List.getElem_toArray, List.getElem_cons_zero, List.getElem_cons_succ]
          iterate 3 (refine pe_run _ ?_ rfl rfl ?_ ?_; rotate_left; (focus (intro w' hS; go_simp; exact rfl)); simp only [Act.put, List.setIfInBounds_toArray, List.set_cons_zero, List.set_cons_succ, List.getElem_toArray, List.getElem_cons_zero, List.getElem_cons_succ])
          have v0 := XJ.out.get 0 (by omega)
          have v1 := XJ.out.get 1 (by omega)
          have v2 := XJ.out.get 2 (by omega)
          have v3 := XJ.out.get 3 (by omega)
          have z0 := XJ.out.frz 0
          have z1 := XJ.out.frz 1
          have z2 := XJ.out.frz 2
          have z3 := XJ.out.frz 3
          obtain ⟨xi, ui⟩ := gset4 XJ.out (.string R.1.root) (.int .i64 R.1.height) (.slice na' nn' nc') (.slice oa' ow' oc')
          have XS := Lib.hid (Y7.out.trans (ui.below YL.out))
          have hfe := HFO.out.on (Keeps.upd ui (fun b hb => by have := YL.out; have := YLT.out; rcases hb with hb | hb; exact (by have := hb.2; omega); omega))
          refine pe_skip _ rfl rfl (by go_simp) XS.out ?_
          simp only [Act.put, List.getElem_toArray, List.getElem_cons_zero, List.getElem_cons_succ]
          refine pe_last _ rfl ?_
          simp only [List.getElem_toArray, List.getElem_cons_zero, List.getElem_cons_succ]
          clear v0 v1 v2 v3 z0 z1 z2 z3
          have XB := Lib.hid xi
          have HFE := Lib.hid hfe
          clear xi ui hfe
          go_wp2_with fail
          go_meet
          exact ⟨y, rfl, rt, mv, ov, N, O, C, na, nn, nc, oa, ow, oc, na', nn', nc', oa', ow', oc', w7.heap.size, HM.out.on XS.out, HBZ.out.trans (XS.out.mono HBZ.out.size), XB.out, HFE.out.more (fun b hb _ => hb.imp (fun h => h.1) fun h => h), fun b hb => Nat.lt_of_lt_of_le (HM.out.code.ownL b hb) YN.out, Nat.lt_of_lt_of_le HM.out.blk.lt YN.out, by have := HM.out.blk.lt; have := YL.out; omega, HWR.out⟩
      case rest =>
        obtain ⟨y, rfl, rt', mv', ov', N', O', C', ma, mn, mc, qa, qw, qc, na', nn', nc', oa', ow', oc', n', hM', hb', hy', hfo', hn', hrn', hyr, hwf⟩ := hcut
        have HM' := Lib.hid hM'
        have HB' := Lib.hid hb'
        have HFO' := Lib.hid hfo'
        have HN' := Lib.hid hn'
        have HRN' := Lib.hid hrn'
        have d0 : _ = some (Value.string R.1.root) := hy'.get 0 (by omega)
        have d1 : _ = some (Value.int .i64 R.1.height) := hy'.get 1 (by omega)
        have d2 : _ = some (Value.slice na' nn' nc') := hy'.get 2 (by omega)
        have d3 : _ = some (Value.slice oa' ow' oc') := hy'.get 3 (by omega)
        have v0 := hM'.blk.get 0 (by omega)
        have v1 := hM'.blk.get 1 (by omega)
        have v2 := hM'.blk.get 2 (by omega)
        have v3 := hM'.blk.get 3 (by omega)
        have z0 := hM'.blk.frz 0
        have z1 := hM'.blk.frz 1
        have z2 := hM'.blk.frz 2
        have z3 := hM'.blk.frz 3
        obtain ⟨xi, ui⟩ := gset4 hM'.blk (.string R.1.root) (.int .i64 R.1.height) (.slice na' nn' nc') (.slice oa' ow' oc')
        have S9 := Lib.hid (TwX.moved HM'.out HB'.out HFO'.out HN'.out HRN'.out HT2.out ui xi hwf)
        clear hM' hb' hy' hfo' hn' hrn' hyr hwf xi ui
        go_upto_region 8 with fail
        clear d0 d1 d2 d3 v0 v1 v2 v3 z0 z1 z2 z3
        obtain ⟨w9, hw9⟩ : ∃ w9, ((((wc.setCell ⟨r, 0, none⟩ (.string R.1.root)).setCell ⟨r, 1, none⟩ (.int .i64 R.1.height)).setCell ⟨r, 2, none⟩ (.slice na' nn' nc')).setCell ⟨r, 3, none⟩ (.slice oa' ow' oc')) = w9 := ⟨_, rfl⟩
        rw [hw9] at S9 ⊢
        clear hw9
        obtain ⟨c0, c1, c2, c3, c4, c5, hsi, hri⟩ := HA0.out w9 S9.out.2
        have HSI := Lib.hid (And.intro hsi hri)
        clear hsi hri
        go_wp2_with fail
        refine (tw_put S9.out HT2.out (by rw [HFP.out.2.1]; omega) P.1 HSP.out R HRP.out pv pp pj pk HPE.out.1 HPE.out.2.1 HPE.out.2.2.1 HPE.out.2.2.2 ps pr HSI.out.1 HSI.out.2).mono ?_
        rintro e w10 ⟨rfl, hs10⟩
        have S10 := Lib.hid hs10
        clear hs10 c0 c1 c2 c3 c4 c5
        go_wp2_with fail
        go_roundw
        case rel => exact ⟨i + 1, by have := HLT.out; omega, by go_num, by rw [HF1.out]; exact S10.out⟩
        case measure => have := HLT.out; simp [intOf]; omega
    · obtain rfl : i = l.length := by omega
      have hlt' : ¬ ((l.length : Nat) : Int) < (L.length : Int) := by rw [HLN.out]; omega
      obtain ⟨F, hF⟩ : ∃ F, playF bs = F := ⟨_, rfl⟩
      have HBS := Lib.hid hbs'.out
      rw [show bs.take l.length = bs by rw [← HBN.out]; exact List.take_length, hF] at hst
      obtain ⟨⟨rt, mv, ov, N, O, C, na, nn, nc, oa, ow, oc, hM⟩, hbz⟩ := hst
      have HM := Lib.hid hM
      have HBZ := Lib.hid hbz
      have HFR := Lib.hid (show FromF F (fun b => sigsI b = []) from by
        rw [← hF, HBS.out]
        exact play_from _ fun b hb => (chain_small l l.length b hb).2.1)
      have HFE := Lib.hid (show playF (chainL l l.length) = F by rw [← HBS.out, hF])
      have LZ := Lib.hid (L2.out.below hbz L2.out.lt)
      clear hi hlt hF hM hbz
      go_wp2_with fail
      refine plan_abs (fun wx => Blk wx r 4 (rowL [.string F.root, .int .i64 F.height, .slice na nn nc, .slice oa ow oc])) [(true, 0), (true, 1), (true, 2), (true, 3), (false, 4), (true, 5)] (by kernel_rfl) (by kernel_rfl) (fun _ _ d _ _ h => by cases d <;> exact h) fun w5 hs5 => ⟨HM.out.blk.same hs5, ?_⟩
      have Y5 := Lib.hid (show Below wr.heap.size wr w5 from hs5.below _)
      have LY := Lib.hid (LZ.out.same hs5)
      clear hs5
      have HRW := Lib.hid (show w.heap.size < g ∧ w.heap.size < r from by
        have h1 := HM.out.rB
        have h2 := HM.out.code.gB
        have h3 := L2.out.lt
        omega)
      iterate 4 (refine pl_run _ ?_ rfl rfl ?_ ?_; rotate_left; (focus (intro w' hS; obtain ⟨c0, c1, c2, c3⟩ := cells4 hS; go_simp; exact rfl)); simp only [Act.put, List.setIfInBounds_toArray, List.set_cons_zero, List.set_cons_succ, List.getElem_toArray, List.getElem_cons_zero, List.getElem_cons_succ])
      obtain ⟨q0, q1, q2, q3⟩ := cells4 LY.out
      have z0 := LY.out.frz 0
      have z1 := LY.out.frz 1
      have z2 := LY.out.frz 2
      have z3 := LY.out.frz 3
      obtain ⟨xi, ui⟩ := gset4 LY.out (.string F.root) (.int .i64 F.height) (.slice na nn nc) (.slice oa ow oc)
      have XI := Lib.hid xi
      have UI := Lib.hid ui
      refine pl_store _ rfl rfl (by go_simp) ((HM.out.blk.below Y5.out HM.out.blk.lt).upd ui (by have := HRW.out; omega)) ?_
      simp only [Act.put, List.getElem_toArray, List.getElem_cons_zero, List.getElem_cons_succ]
      refine pl_run _ ?_ rfl rfl ?_ ?_
      rotate_left
      · intro w' hS
        go_simp
        exact rfl
      simp only [Act.put, List.setIfInBounds_toArray, List.set_cons_zero, List.set_cons_succ, List.getElem_toArray, List.getElem_cons_zero, List.getElem_cons_succ]
      refine pl_end ?_
      clear q0 q1 q2 q3 z0 z1 z2 z3 xi ui
      go_wp2_with fail
      obtain ⟨p0, p1, p2, p3⟩ := cells4 XI.out
      refine bodyPost_ret (v := .tuple #[.pointer (some ⟨g, 0, none⟩), .agg #[.string F.root, .int .i64 F.height, .slice na nn nc, .slice oa ow oc], .slice la L.length lc]) (by simp [results, Tryd.results39, go_sem, p0, p1, p2, p3]) rfl ?_
      have hFB : ForestBlk w5 w.heap.size := ⟨_, _, _, _, _, _, _, _, LY.out⟩
      refine ⟨_, rfl, g, na, nn, nc, oa, ow, oc, la, lc, L, by rw [HFE.out], ?_, ?_, ?_, HMAP.out, ?_⟩
      · rw [HFE.out]
        exact ⟨_, _, _, _, _, _, _, (HM.out.code.on Y5.out).keep (Keeps.upd UI.out fun c hc => by have := (HM.out.code.on Y5.out).ownB c hc; have := L2.out.lt; omega)⟩
      · rw [HFE.out]
        exact fo_upd hFB UI.out HFR.out (HM.out.fo.now.later Y5.out)
      · refine bv_upd hFB UI.out (fun x hx => ?_) (HBV.out.later (HBZ.out.trans (Y5.out.mono HBZ.out.size)))
        have hm : x.1 ∈ chainL l l.length := by rw [← HMAP.out]; exact List.mem_map.2 ⟨x, hx, rfl⟩
        exact (chain_small l l.length x.1 hm).2.1
      · exact (X2.out.trans ((HBZ.out.trans (Y5.out.mono HBZ.out.size)).mono X2.out.size)).trans (UI.out.below (Nat.le_refl _))
end Go.Proofs.YtegkhhegapnkpaaDoor
end
section
open Go Go.RowKit
namespace RR
open FF JJ CC WW BB MM
theorem learn_some {F : Fo} {s1 s2 v : Int} {h : ByteArray} {b : BlockD} (h1 : certF F v h = some b) : learnS F (s1, s2) v h = (s1, max s2 (jvI b)) := by unfold learnS; rw [h1]
theorem learn_none {F : Fo} {s : St} {v : Int} {h : ByteArray} (h1 : certF F v h = none) : learnS F s v h = s := by unfold learnS; rw [h1]
theorem com_no1 {F : Fo} {v : Int} {h : ByteArray} (h1 : certF F v h = none) : commitF F v h = (⟨#[]⟩, false) := by unfold commitF; rw [h1]
theorem com_no2 {F : Fo} {v : Int} {h : ByteArray} {b : BlockD} (h1 : certF F v h = some b) (h2 : aheadF F b = none) : commitF F v h = (⟨#[]⟩, false) := by unfold commitF; rw [h1]; simp only [h2]
theorem com_no3 {F : Fo} {v : Int} {h : ByteArray} {b p : BlockD} (h1 : certF F v h = some b) (h2 : aheadF F b = some p) (h3 : aheadF F p = none) : commitF F v h = (⟨#[]⟩, false) := by unfold commitF; rw [h1]; simp only [h2, h3]
theorem com_yes {F : Fo} {v : Int} {h : ByteArray} {b p g : BlockD} (h1 : certF F v h = some b) (h2 : aheadF F b = some p) (h3 : aheadF F p = some g) : commitF F v h = (parI p, true) := by unfold commitF; rw [h1]; simp only [h2, h3]
end RR
namespace Go.Proofs.YtegkhhegapnkpaaDoor
open RR FF JJ CC MM WW BB
set_option maxRecDepth 100000 in
set_option maxHeartbeats 4000000 in
theorem learn_any {g : Nat} {F : Fo} {w : World} (hC : CodeF g F w) (s1 s2 cv : Int) (ch : ByteArray) (ca : Option Addr) (cn cc : Nat) (hs : ch.size ≤ 1000000) (t1 t2 : Int) (ht : learnS F (s1, s2) cv ch = (t1, t2)) :
    Calls Tryd.prog 42 #[.pointer (some ⟨g, 0, none⟩), .agg #[.int .i64 s1, .int .i64 s2], .agg #[.int .i64 cv, .string ch, .slice ca cn cc]] w fun e w' => e = .returned (.agg #[.int .i64 t1, .int .i64 t2]) ∧ Below w.heap.size w w' := by
  have HC := Lib.hid hC
  have HS := Lib.hid hs
  have HT := Lib.hid ht
  have X3 := Lib.hid ((((Below.refl w.heap.size w).alloc (Nat.le_refl _) (.cells #[.int .i64 s1, .int .i64 s2] 72)).alloc (by simp) (.cells #[.int .i64 cv, .string ch, .slice ca cn cc] 24)).alloc (by simp; omega) (.cells #[.int .i64 0, .int .i64 0] 72))
  have R0 := Lib.hid (show Blk (((w.alloc (.cells #[.int .i64 s1, .int .i64 s2] 72)).alloc (.cells #[.int .i64 cv, .string ch, .slice ca cn cc] 24)).alloc (.cells #[.int .i64 0, .int .i64 0] 72)) w.heap.size 2 (rowL [.int .i64 s1, .int .i64 s2]) from ((Blk.new' rfl (row2_ _ _)).alloc _).alloc _)
  have R2 := Lib.hid (show Blk (((w.alloc (.cells #[.int .i64 s1, .int .i64 s2] 72)).alloc (.cells #[.int .i64 cv, .string ch, .slice ca cn cc] 24)).alloc (.cells #[.int .i64 0, .int .i64 0] 72)) (w.heap.size + 1 + 1) 2 (rowL [.int .i64 0, .int .i64 0]) from Blk.new' (by simp) (row2_ _ _))
  clear hC hs ht
  go_enter Tryd.func42, Tryd.ntmps42
  go_wp2_with fail
  refine (certified_any (HC.out.on X3.out) cv ch ca cn cc HS.out).mono ?_
  rintro e w3 ⟨v, p, j, k, a0, n0, c0, a1, n1, c1, bb, rfl, ho, hb3⟩
  have HO := Lib.hid ho
  have X4 := Lib.hid ((X3.out.trans (hb3.mono X3.out.size)).alloc (Nat.le_trans X3.out.size hb3.size) (.cells #[.int .i64 v, .int .i64 p, .int .i64 j, .string k, .slice a0 n0 c0, .slice a1 n1 c1] 29))
  have C0 := Lib.hid ((R0.out.below hb3 R0.out.lt).alloc (.cells #[.int .i64 v, .int .i64 p, .int .i64 j, .string k, .slice a0 n0 c0, .slice a1 n1 c1] 29))
  have C2 := Lib.hid ((R2.out.below hb3 R2.out.lt).alloc (.cells #[.int .i64 v, .int .i64 p, .int .i64 j, .string k, .slice a0 n0 c0, .slice a1 n1 c1] 29))
  have C3 := Lib.hid (show Blk (w3.alloc (.cells #[.int .i64 v, .int .i64 p, .int .i64 j, .string k, .slice a0 n0 c0, .slice a1 n1 c1] 29)) w3.heap.size 6 (rowL [.int .i64 v, .int .i64 p, .int .i64 j, .string k, .slice a0 n0 c0, .slice a1 n1 c1]) from Blk.new' rfl (row6_ _ _ _ _ _ _))
  clear ho hb3
  obtain ⟨d0, d1⟩ := cells2 C0.out
  obtain ⟨d2, d3⟩ := cells2 C2.out
  obtain ⟨g0, g1, g2, g3, g4, g5⟩ := cells6 C3.out
  have f0 := C0.out.frz 1
  have f1 := C2.out.frz 0
  have f2 := C2.out.frz 1
  cases bb with
  | false =>
    obtain ⟨rfl, rfl⟩ : s1 = t1 ∧ s2 = t2 := by
      have := HT.out
      rw [learn_none HO.out.no.1] at this
      exact ⟨congrArg Prod.fst this, congrArg Prod.snd this⟩
    go_wp2_with fail
    obtain ⟨xi, ui⟩ := rset2 C2.out (.int .i64 s1) (.int .i64 s2)
    obtain ⟨p0, p1⟩ := cells2 xi
    refine bodyPost_ret (v := .agg #[.int .i64 s1, .int .i64 s2]) (by simp [results, Tryd.results42, go_sem, p0, p1]) rfl ⟨rfl, ?_⟩
    exact X4.out.trans (ui.below (by omega))
  | true =>
    have hT : s1 = t1 ∧ max s2 j = t2 := by
      obtain ⟨b, h1, h2, h3, h4, h5, h6⟩ := HO.out.yes
      have := HT.out
      rw [learn_some h1, h4] at this
      exact ⟨congrArg Prod.fst this, congrArg Prod.snd this⟩
    obtain ⟨rfl, rfl⟩ := hT
    go_wp2_with fail
    obtain ⟨xi, ui⟩ := rset2 (C2.out.set_other ⟨w.heap.size, 1, none⟩ (.int .i64 (max s2 j)) (show w.heap.size + 1 + 1 ≠ w.heap.size by omega)) (.int .i64 s1) (.int .i64 (max s2 j))
    obtain ⟨p0, p1⟩ := cells2 xi
    refine bodyPost_ret (v := .agg #[.int .i64 s1, .int .i64 (max s2 j)]) (by simp [results, Tryd.results42, go_sem, p0, p1]) rfl ⟨rfl, ?_⟩
    exact X4.out.trans (((Upd.set _ _ _ _).below (Nat.le_refl _)).trans (ui.below (by omega)))
set_option maxRecDepth 100000 in
set_option maxHeartbeats 4000000 in
theorem commit_any {g : Nat} {F : Fo} {w : World} (hC : CodeF g F w) (cv : Int) (ch : ByteArray) (ca : Option Addr) (cn cc : Nat) (hs : ch.size ≤ 1000000) (h : ByteArray) (m : Bool) (ht : commitF F cv ch = (h, m)) :
    Calls Tryd.prog 40 #[.pointer (some ⟨g, 0, none⟩), .agg #[.int .i64 cv, .string ch, .slice ca cn cc]] w fun e w' => e = .returned (.tuple #[.string h, .bool m]) ∧ Below w.heap.size w w' := by
  have HC := Lib.hid hC
  have HS := Lib.hid hs
  have HT := Lib.hid ht
  have X1 := Lib.hid ((Below.refl w.heap.size w).alloc (Nat.le_refl _) (.cells #[.int .i64 cv, .string ch, .slice ca cn cc] 24))
  clear hC hs ht
  go_enter Tryd.func40, Tryd.ntmps40
  go_wp2_with fail
  refine (certified_any (HC.out.on X1.out) cv ch ca cn cc HS.out).mono ?_
  rintro e w2 ⟨v, p, j, k, a0, n0, c0, a1, n1, c1, bb, rfl, ho, hb2⟩
  have HO := Lib.hid ho
  have X2 := Lib.hid ((X1.out.trans (hb2.mono X1.out.size)).alloc (Nat.le_trans X1.out.size hb2.size) (.cells #[.int .i64 v, .int .i64 p, .int .i64 j, .string k, .slice a0 n0 c0, .slice a1 n1 c1] 29))
  have C2 := Lib.hid (show Blk (w2.alloc (.cells #[.int .i64 v, .int .i64 p, .int .i64 j, .string k, .slice a0 n0 c0, .slice a1 n1 c1] 29)) w2.heap.size 6 (rowL [.int .i64 v, .int .i64 p, .int .i64 j, .string k, .slice a0 n0 c0, .slice a1 n1 c1]) from Blk.new' rfl (row6_ _ _ _ _ _ _))
  clear ho hb2
  obtain ⟨g0, g1, g2, g3, g4, g5⟩ := cells6 C2.out
  cases bb with
  | false =>
    obtain ⟨rfl, rfl⟩ : (⟨#[]⟩ : ByteArray) = h ∧ false = m := by
      have := HT.out
      rw [com_no1 HO.out.no.1] at this
      exact ⟨congrArg Prod.fst this, congrArg Prod.snd this⟩
    go_wp2_with fail
    go_ret2
    exact ⟨rfl, X2.out⟩
  | true =>
    obtain ⟨b, hb⟩ : ∃ b, certF F cv ch = some b ∧ viewI b = v ∧ parI b = k ∧ k.size ≤ 1000000 := by
      obtain ⟨b, h1, h2, h3, h4, h5, h6⟩ := HO.out.yes
      exact ⟨b, h1, h2, h5, by have := HO.out.k1000; omega⟩
    have HB := Lib.hid hb
    clear hb
    go_wp2_with fail
    refine (ahead_any (HC.out.on X2.out) b v p j k a0 n0 c0 a1 n1 c1 HB.out.2.2.2 HB.out.2.1 HB.out.2.2.1).mono ?_
    rintro e w3 ⟨v', p', j', k', a0', n0', c0', a1', n1', c1', bb', rfl, ho', hb3⟩
    have HO' := Lib.hid ho'
    have X3 := Lib.hid ((X2.out.trans (hb3.mono X2.out.size)).alloc (Nat.le_trans X2.out.size hb3.size) (.cells #[.int .i64 v', .int .i64 p', .int .i64 j', .string k', .slice a0' n0' c0', .slice a1' n1' c1'] 29))
    have C3 := Lib.hid (show Blk (w3.alloc (.cells #[.int .i64 v', .int .i64 p', .int .i64 j', .string k', .slice a0' n0' c0', .slice a1' n1' c1'] 29)) w3.heap.size 6 (rowL [.int .i64 v', .int .i64 p', .int .i64 j', .string k', .slice a0' n0' c0', .slice a1' n1' c1']) from Blk.new' rfl (row6_ _ _ _ _ _ _))
    clear ho' hb3 g0 g1 g2 g3 g4 g5
    obtain ⟨g0, g1, g2, g3, g4, g5⟩ := cells6 C3.out
    cases bb' with
    | false =>
      obtain ⟨rfl, rfl⟩ : (⟨#[]⟩ : ByteArray) = h ∧ false = m := by
        have := HT.out
        rw [com_no2 HB.out.1 HO'.out.no.1] at this
        exact ⟨congrArg Prod.fst this, congrArg Prod.snd this⟩
      go_wp2_with fail
      go_ret2
      exact ⟨rfl, X3.out⟩
    | true =>
      obtain ⟨b', hb'⟩ : ∃ b', aheadF F b = some b' ∧ viewI b' = v' ∧ parI b' = k' ∧ k'.size ≤ 1000000 := by
        obtain ⟨b', h1, h2, h3, h4, h5, h6⟩ := HO'.out.yes
        exact ⟨b', h1, h2, h5, by have := HO'.out.k1000; omega⟩
      have HB' := Lib.hid hb'
      clear hb'
      go_wp2_with fail
      refine (ahead_any (HC.out.on X3.out) b' v' p' j' k' a0' n0' c0' a1' n1' c1' HB'.out.2.2.2 HB'.out.2.1 HB'.out.2.2.1).mono ?_
      rintro e w4 ⟨v'', p'', j'', k'', a0'', n0'', c0'', a1'', n1'', c1'', bb'', rfl, ho'', hb4⟩
      have HO'' := Lib.hid ho''
      have X4 := Lib.hid ((X3.out.trans (hb4.mono X3.out.size)).alloc (Nat.le_trans X3.out.size hb4.size) (.cells #[.int .i64 v'', .int .i64 p'', .int .i64 j'', .string k'', .slice a0'' n0'' c0'', .slice a1'' n1'' c1''] 29))
      have C4 := Lib.hid ((C3.out.below hb4 C3.out.lt).alloc (.cells #[.int .i64 v'', .int .i64 p'', .int .i64 j'', .string k'', .slice a0'' n0'' c0'', .slice a1'' n1'' c1''] 29))
      clear ho'' hb4 g0 g1 g2 g3 g4 g5
      obtain ⟨g0, g1, g2, g3, g4, g5⟩ := cells6 C4.out
      cases bb'' with
      | false =>
        obtain ⟨rfl, rfl⟩ : (⟨#[]⟩ : ByteArray) = h ∧ false = m := by
          have := HT.out
          rw [com_no3 HB.out.1 HB'.out.1 HO''.out.no.1] at this
          exact ⟨congrArg Prod.fst this, congrArg Prod.snd this⟩
        go_wp2_with fail
        go_ret2
        exact ⟨rfl, X4.out⟩
      | true =>
        obtain ⟨rfl, rfl⟩ : k' = h ∧ true = m := by
          obtain ⟨b'', h1, _⟩ := HO''.out.yes
          have := HT.out
          rw [com_yes HB.out.1 HB'.out.1 h1, HB'.out.2.2.1] at this
          exact ⟨congrArg Prod.fst this, congrArg Prod.snd this⟩
        go_wp2_with fail
        refine (parent_any v' p' j' k' a0' a1' n0' c0' n1' c1' _).mono ?_
        rintro e w5 ⟨rfl, hb5⟩
        have X5 := Lib.hid (X4.out.trans (hb5.mono X4.out.size))
        clear hb5 g0 g1 g2 g3 g4 g5
        go_wp2_with fail
        go_ret2
        exact ⟨rfl, X5.out⟩
end Go.Proofs.YtegkhhegapnkpaaDoor
end
section
open Go Go.RowKit
namespace RR
open FF JJ CC WW BB MM
theorem rlearn_yes {F : Fo} {s1 s2 v : Int} {h : ByteArray} {b : BlockD} (h1 : findF F h = some b) (h2 : viewI b = v) (h3 : s2 < jvI b) : learnS F (s1, s2) v h = (s1, jvI b) := by
  rw [learn_some (cert_yes h1 h2), show max s2 (jvI b) = jvI b by omega]
theorem rlearn_no {F : Fo} {s1 s2 v : Int} {h : ByteArray} (h1 : findF F h = none ∨ ∃ b, findF F h = some b ∧ (viewI b ≠ v ∨ jvI b ≤ s2)) : learnS F (s1, s2) v h = (s1, s2) := by
  rcases h1 with h1 | ⟨b, h1, h2⟩
  · exact learn_none (cert_no (Or.inl h1))
  · by_cases hv : viewI b = v
    · rw [learn_some (cert_yes h1 hv), show max s2 (jvI b) = s2 by omega]
    · exact learn_none (cert_no (Or.inr ⟨b, h1, hv⟩))
end RR
namespace Go.Proofs.YtegkhhegapnkpaaDoor
open RR FF JJ CC MM WW BB
set_option maxRecDepth 100000 in
set_option maxHeartbeats 4000000 in
theorem find_any (F : Fo) (hF : WF F) (hsm : ∀ x ∈ F.nodes, SmallI x.2) (d : ByteArray) (nv ov : Value) (w : World) (hv : FoAt w F nv ov) :
    Calls Tryd.prog 102 #[.agg #[.string F.root, .int .i64 F.height, nv, ov], .string d] w (BAns w (findF F d)) := by
  obtain ⟨N, O, hN, hO, hn, ho⟩ := hv
  have HF := Lib.hid hF
  have HSM := Lib.hid hsm
  have HN := Lib.hid hN
  have HIN := Lib.hid hn
  have HL := Lib.hid (show N.length ≤ 1000 by have := hF.n400; rw [← hN, List.length_map] at this; omega)
  obtain ⟨na, nc, rfl⟩ := iv_shape hn
  obtain ⟨oa, oc, rfl⟩ := iv_shape ho
  obtain ⟨X, hX⟩ : ∃ X, atI F.nodes d = X := ⟨_, rfl⟩
  have HX := Lib.hid hX
  have X2 := Lib.hid (((Below.refl w.heap.size w).alloc (Nat.le_refl _) (.cells #[.string F.root, .int .i64 F.height, .slice na N.length nc, .slice oa O.length oc] 54)).alloc (by simp) (.cells #[.int .i64 0, .int .i64 0, .int .i64 0, .string ⟨#[]⟩, .slice none 0 0, .slice none 0 0] 29))
  have R1 := Lib.hid (show Blk ((w.alloc (.cells #[.string F.root, .int .i64 F.height, .slice na N.length nc, .slice oa O.length oc] 54)).alloc (.cells #[.int .i64 0, .int .i64 0, .int .i64 0, .string ⟨#[]⟩, .slice none 0 0, .slice none 0 0] 29)) (w.heap.size + 1) 6 (rowL [.int .i64 0, .int .i64 0, .int .i64 0, .string ⟨#[]⟩, .slice none 0 0, .slice none 0 0]) from Blk.new' (by simp) (row6_ _ _ _ _ _ _))
  have R0 := Lib.hid (show Blk ((w.alloc (.cells #[.string F.root, .int .i64 F.height, .slice na N.length nc, .slice oa O.length oc] 54)).alloc (.cells #[.int .i64 0, .int .i64 0, .int .i64 0, .string ⟨#[]⟩, .slice none 0 0, .slice none 0 0] 29)) w.heap.size 4 (rowL [.string F.root, .int .i64 F.height, .slice na N.length nc, .slice oa O.length oc]) from (Blk.new' rfl (row4_ _ _ _ _)).alloc _)
  clear hN hO hn ho hX hF hsm
  go_enter Tryd.func102, Tryd.ntmps102
  go_wp2_with fail
  refine (fat_is N F.nodes _ d X HN.out HX.out _ (HIN.out.later X2.out) HL.out).mono ?_
  rintro e w2 ⟨rfl, rfl⟩
  obtain ⟨q0, q1, q2, q3⟩ := cells4 R0.out
  obtain ⟨e0, e1, e2, e3, e4, e5⟩ := cells6 R1.out
  have f0 := R1.out.frz 0
  have f1 := R1.out.frz 1
  have f2 := R1.out.frz 2
  have f3 := R1.out.frz 3
  have f4 := R1.out.frz 4
  have f5 := R1.out.frz 5
  by_cases hx : 0 ≤ X
  · obtain ⟨i, rfl⟩ := Int.eq_ofNat_of_zero_le hx
    have hi : i < N.length := by
      have := (at_bound F.nodes d).2
      rw [HX.out, ← HN.out, List.length_map] at this
      omega
    have HI := Lib.hid hi
    have HNE := Lib.hid (show d ≠ F.root from fun e => by
      obtain ⟨x, hxm, hxe⟩ := (at_mem F.nodes d).1 (by rw [HX.out]; omega)
      exact HF.out.ne x (List.mem_append_left _ hxm) (hxe.trans e))
    have t1 := ba_beq HNE.out
    have t0 : ¬ (i : Int) < 0 := by omega
    have hi' : (i : Int) < (N.length : Int) := by omega
    obtain ⟨b, off, rfl, hbw, hcell⟩ : ∃ b off, na = some ⟨b, off, none⟩ ∧ b < w.heap.size ∧ _ := by
      obtain ⟨a0, cap, he, h⟩ := HIN.out
      injection he with he1 _ _
      subst he1
      rcases h with h | h
      · subst h; simp at hi
      · exact h
    obtain ⟨x, hxx⟩ : ∃ x, N.getD i v0 = x := ⟨_, rfl⟩
    have HXX := Lib.hid hxx
    obtain ⟨k0, k1, k2, k3, k4, k5, k6⟩ := iv_cells X2.out hbw hcell i hi
    have hin := (hcell i hi).2
    rw [hxx] at k0 k1 k2 k3 k4 k5 k6 hin
    obtain ⟨⟨xd, xb⟩, s4, s5⟩ := x
    obtain ⟨a4, c4, h4⟩ := sl_of_sigs hin.1
    obtain ⟨a5, c5, h5⟩ := sl_of_reqs hin.2
    replace h4 : s4 = .slice a4 (sigsI xb).length c4 := h4
    replace h5 : s5 = .slice a5 xb.2.length c5 := h5
    subst h4 h5
    obtain ⟨v, hv⟩ : ∃ v, viewI xb = v := ⟨_, rfl⟩
    obtain ⟨p, hp⟩ : ∃ p, propI xb = p := ⟨_, rfl⟩
    obtain ⟨j, hj⟩ : ∃ j, jvI xb = j := ⟨_, rfl⟩
    obtain ⟨k, hk⟩ : ∃ k, parI xb = k := ⟨_, rfl⟩
    obtain ⟨n4, hn4⟩ : ∃ n, (sigsI xb).length = n := ⟨_, rfl⟩
    obtain ⟨n5, hn5⟩ : ∃ n, xb.2.length = n := ⟨_, rfl⟩
    replace k1 : _ = some (Value.int .i64 v) := hv ▸ k1
    replace k2 : _ = some (Value.int .i64 p) := hp ▸ k2
    replace k3 : _ = some (Value.int .i64 j) := hj ▸ k3
    replace k4 : _ = some (Value.string k) := hk ▸ k4
    replace k5 : _ = some (Value.slice a4 n4 c4) := hn4 ▸ k5
    replace k6 : _ = some (Value.slice a5 n5 c5) := hn5 ▸ k6
    have HO := Lib.hid (show IsO (findF F d) v p j k true from Or.inl ⟨rfl, xb, by
      unfold findF
      rw [if_pos (by rw [HX.out]; omega), HX.out, Int.toNat_natCast, ← HN.out, map_getD N i HI.out, HXX.out], hv, hp, hj, hk, by
      have hm : (xd, xb) ∈ F.nodes := by
        rw [← HN.out]
        refine List.mem_map.2 ⟨N.getD i v0, ?_, by rw [HXX.out]⟩
        rw [List.getD_eq_getElem?_getD, List.getElem?_eq_getElem HI.out]
        exact List.getElem_mem HI.out
      exact HSM.out _ hm⟩)
    clear hv hp hj hk hn4 hn5 hin hcell hbw hxx hi hx
    go_wp2_with fail
    refine bodyPost_ret (v := .tuple #[.agg #[.int .i64 v, .int .i64 p, .int .i64 j, .string k, .slice a4 n4 c4, .slice a5 n5 c5], .bool true]) (by simp [results, Tryd.results102, go_sem]) rfl ?_
    exact ⟨v, p, j, k, a4, n4, c4, a5, n5, c5, true, rfl, HO.out, ((Below.refl w.heap.size w).alloc (Nat.le_refl _) _).alloc (by simp) _⟩
  · have t0 : X < 0 := by omega
    have HO := Lib.hid (show findF F d = none by unfold findF; rw [if_neg (by rw [HX.out]; exact hx)])
    clear hx
    go_wp2_with fail
    refine bodyPost_ret (v := .tuple #[.agg #[.int .i64 0, .int .i64 0, .int .i64 0, .string ⟨#[]⟩, .slice none 0 0, .slice none 0 0], .bool false]) (by simp [results, Tryd.results102, go_sem]) rfl ?_
    exact ⟨0, 0, 0, ⟨#[]⟩, none, 0, 0, none, 0, 0, false, rfl, IsO.zero _ HO.out, ((Below.refl w.heap.size w).alloc (Nat.le_refl _) _).alloc (by simp) _⟩
end Go.Proofs.YtegkhhegapnkpaaDoor
end
section
open Go Go.RowKit
namespace RR
open FF JJ CC WW BB MM
theorem rcom_no1 {F : Fo} {v : Int} {h : ByteArray} (h1 : findF F h = none ∨ ∃ b, findF F h = some b ∧ viewI b ≠ v) : commitF F v h = (⟨#[]⟩, false) := com_no1 (cert_no h1)
theorem rcom_no2 {F : Fo} {v : Int} {h : ByteArray} {b : BlockD} (h1 : findF F h = some b) (h2 : viewI b = v) (h3 : findF F (parI b) = none ∨ ∃ p, findF F (parI b) = some p ∧ (findF F (parI p) = none ∨ viewI b ≠ nextV (viewI p) ∨ ∃ g, findF F (parI p) = some g ∧ viewI p ≠ nextV (viewI g))) : commitF F v h = (⟨#[]⟩, false) := by
  have c := cert_yes (v := v) h1 h2
  rcases h3 with h3 | ⟨p, h3, h4⟩
  · exact com_no2 c (ahead_no (Or.inl h3))
  · by_cases hv : viewI b = nextV (viewI p)
    · refine com_no3 c (ahead_yes h3 hv) (ahead_no ?_)
      rcases h4 with h4 | h4 | h4
      · exact Or.inl h4
      · exact absurd hv h4
      · exact Or.inr h4
    · exact com_no2 c (ahead_no (Or.inr ⟨p, h3, hv⟩))
theorem rcom_yes {F : Fo} {v : Int} {h : ByteArray} {b p g : BlockD} (h1 : findF F h = some b) (h2 : viewI b = v) (h3 : findF F (parI b) = some p) (h4 : viewI b = nextV (viewI p)) (h5 : findF F (parI p) = some g) (h6 : viewI p = nextV (viewI g)) : commitF F v h = (parI p, true) :=
  com_yes (cert_yes h1 h2) (ahead_yes h3 h4) (ahead_yes h5 h6)
end RR
namespace Go.Proofs.YtegkhhegapnkpaaDoor
open RR FF JJ CC MM WW BB
set_option maxRecDepth 100000 in
set_option maxHeartbeats 4000000 in
theorem rlearn_any (F : Fo) (hF : WF F) (hsm : ∀ x ∈ F.nodes, SmallI x.2) (na : Option Addr) (nn nc : Nat) (oa : Option Addr) (on oc : Nat) (w : World) (hv : FoAt w F (.slice na nn nc) (.slice oa on oc)) (s1 s2 cv : Int) (ch : ByteArray) (ca : Option Addr) (cn cc : Nat) (t1 t2 : Int) (ht : learnS F (s1, s2) cv ch = (t1, t2)) :
    Calls Tryd.prog 43 #[.agg #[.string F.root, .int .i64 F.height, .slice na nn nc, .slice oa on oc], .agg #[.int .i64 s1, .int .i64 s2], .agg #[.int .i64 cv, .string ch, .slice ca cn cc]] w fun e w' => e = .returned (.agg #[.int .i64 t1, .int .i64 t2]) ∧ Below w.heap.size w w' := by
  have HF := Lib.hid (And.intro hF hsm)
  have HV := Lib.hid hv
  have HT := Lib.hid ht
  have X4 := Lib.hid (((((Below.refl w.heap.size w).alloc (Nat.le_refl _) (.cells #[.string F.root, .int .i64 F.height, .slice na nn nc, .slice oa on oc] 54)).alloc (by simp) (.cells #[.int .i64 s1, .int .i64 s2] 72)).alloc (by simp; omega) (.cells #[.int .i64 cv, .string ch, .slice ca cn cc] 24)).alloc (by simp; omega) (.cells #[.int .i64 0, .int .i64 0] 72))
  have R1 := Lib.hid (show Blk ((((w.alloc (.cells #[.string F.root, .int .i64 F.height, .slice na nn nc, .slice oa on oc] 54)).alloc (.cells #[.int .i64 s1, .int .i64 s2] 72)).alloc (.cells #[.int .i64 cv, .string ch, .slice ca cn cc] 24)).alloc (.cells #[.int .i64 0, .int .i64 0] 72)) (w.heap.size + 1) 2 (rowL [.int .i64 s1, .int .i64 s2]) from ((Blk.new' (by simp) (row2_ _ _)).alloc _).alloc _)
  have R2 := Lib.hid (show Blk ((((w.alloc (.cells #[.string F.root, .int .i64 F.height, .slice na nn nc, .slice oa on oc] 54)).alloc (.cells #[.int .i64 s1, .int .i64 s2] 72)).alloc (.cells #[.int .i64 cv, .string ch, .slice ca cn cc] 24)).alloc (.cells #[.int .i64 0, .int .i64 0] 72)) (w.heap.size + 1 + 1) 3 (rowL [.int .i64 cv, .string ch, .slice ca cn cc]) from (Blk.new' (by simp) (row3_ _ _ _)).alloc _)
  have R3 := Lib.hid (show Blk ((((w.alloc (.cells #[.string F.root, .int .i64 F.height, .slice na nn nc, .slice oa on oc] 54)).alloc (.cells #[.int .i64 s1, .int .i64 s2] 72)).alloc (.cells #[.int .i64 cv, .string ch, .slice ca cn cc] 24)).alloc (.cells #[.int .i64 0, .int .i64 0] 72)) (w.heap.size + 1 + 1 + 1) 2 (rowL [.int .i64 0, .int .i64 0]) from Blk.new' (by simp) (row2_ _ _))
  clear hF hsm hv ht
  go_enter Tryd.func43, Tryd.ntmps43
  go_wp2_with fail
  refine (find_any F HF.out.1 HF.out.2 ch _ _ _ (HV.out.later X4.out)).mono ?_
  rintro e w3 ⟨v, p, j, k, a0, n0, c0, a1, n1, c1, bb, rfl, ho, hb3⟩
  have HO := Lib.hid ho
  have X5 := Lib.hid ((X4.out.trans (hb3.mono X4.out.size)).alloc (Nat.le_trans X4.out.size hb3.size) (.cells #[.int .i64 v, .int .i64 p, .int .i64 j, .string k, .slice a0 n0 c0, .slice a1 n1 c1] 29))
  have C1 := Lib.hid ((R1.out.below hb3 R1.out.lt).alloc (.cells #[.int .i64 v, .int .i64 p, .int .i64 j, .string k, .slice a0 n0 c0, .slice a1 n1 c1] 29))
  have C2 := Lib.hid ((R2.out.below hb3 R2.out.lt).alloc (.cells #[.int .i64 v, .int .i64 p, .int .i64 j, .string k, .slice a0 n0 c0, .slice a1 n1 c1] 29))
  have C3 := Lib.hid ((R3.out.below hb3 R3.out.lt).alloc (.cells #[.int .i64 v, .int .i64 p, .int .i64 j, .string k, .slice a0 n0 c0, .slice a1 n1 c1] 29))
  have C4 := Lib.hid (show Blk (w3.alloc (.cells #[.int .i64 v, .int .i64 p, .int .i64 j, .string k, .slice a0 n0 c0, .slice a1 n1 c1] 29)) w3.heap.size 6 (rowL [.int .i64 v, .int .i64 p, .int .i64 j, .string k, .slice a0 n0 c0, .slice a1 n1 c1]) from Blk.new' rfl (row6_ _ _ _ _ _ _))
  clear ho hb3
  obtain ⟨d0, d1⟩ := cells2 C1.out
  obtain ⟨d2, d3, d4⟩ := cells3 C2.out
  obtain ⟨d5, d6⟩ := cells2 C3.out
  obtain ⟨g0, g1, g2, g3, g4, g5⟩ := cells6 C4.out
  have f1 := C3.out.frz 0
  have f2 := C3.out.frz 1
  cases bb with
  | false =>
    obtain ⟨rfl, rfl⟩ : s1 = t1 ∧ s2 = t2 := by
      have := HT.out
      rw [rlearn_no (Or.inl HO.out.no.1)] at this
      exact ⟨congrArg Prod.fst this, congrArg Prod.snd this⟩
    go_wp2_with fail
    obtain ⟨xi, ui⟩ := rset2 C3.out (.int .i64 s1) (.int .i64 s2)
    obtain ⟨p0, p1⟩ := cells2 xi
    refine bodyPost_ret (v := .agg #[.int .i64 s1, .int .i64 s2]) (by simp [results, Tryd.results43, go_sem, p0, p1]) rfl ⟨rfl, ?_⟩
    exact X5.out.trans (ui.below (by omega))
  | true =>
    by_cases hv : v = cv
    · subst hv
      by_cases hj : s2 < j
      · have y1 : decide (s2 < j) = true := decide_eq_true hj
        obtain ⟨rfl, rfl⟩ : s1 = t1 ∧ j = t2 := by
          obtain ⟨b, h1, h2, h3, h4, h5, h6⟩ := HO.out.yes
          have := HT.out
          rw [rlearn_yes h1 h2 (by omega), h4] at this
          exact ⟨congrArg Prod.fst this, congrArg Prod.snd this⟩
        clear hj
        go_wp2_with fail
        obtain ⟨xi, ui⟩ := rset2 C3.out (.int .i64 s1) (.int .i64 j)
        obtain ⟨p0, p1⟩ := cells2 xi
        refine bodyPost_ret (v := .agg #[.int .i64 s1, .int .i64 j]) (by simp [results, Tryd.results43, go_sem, p0, p1]) rfl ⟨rfl, ?_⟩
        exact X5.out.trans (ui.below (by omega))
      · have y1 : decide (s2 < j) = false := decide_eq_false hj
        obtain ⟨rfl, rfl⟩ : s1 = t1 ∧ s2 = t2 := by
          obtain ⟨b, h1, h2, h3, h4, h5, h6⟩ := HO.out.yes
          have := HT.out
          rw [rlearn_no (Or.inr ⟨b, h1, Or.inr (by omega)⟩)] at this
          exact ⟨congrArg Prod.fst this, congrArg Prod.snd this⟩
        clear hj
        go_wp2_with fail
        obtain ⟨xi, ui⟩ := rset2 C3.out (.int .i64 s1) (.int .i64 s2)
        obtain ⟨p0, p1⟩ := cells2 xi
        refine bodyPost_ret (v := .agg #[.int .i64 s1, .int .i64 s2]) (by simp [results, Tryd.results43, go_sem, p0, p1]) rfl ⟨rfl, ?_⟩
        exact X5.out.trans (ui.below (by omega))
    · have y1 : (v == cv) = false := beq_eq_false_iff_ne.2 hv
      obtain ⟨rfl, rfl⟩ : s1 = t1 ∧ s2 = t2 := by
        obtain ⟨b, h1, h2, h3, h4, h5, h6⟩ := HO.out.yes
        have := HT.out
        rw [rlearn_no (Or.inr ⟨b, h1, Or.inl (by rw [h2]; exact hv)⟩)] at this
        exact ⟨congrArg Prod.fst this, congrArg Prod.snd this⟩
      clear hv
      go_wp2_with fail
      obtain ⟨xi, ui⟩ := rset2 C3.out (.int .i64 s1) (.int .i64 s2)
      obtain ⟨p0, p1⟩ := cells2 xi
      refine bodyPost_ret (v := .agg #[.int .i64 s1, .int .i64 s2]) (by simp [results, Tryd.results43, go_sem, p0, p1]) rfl ⟨rfl, ?_⟩
      exact X5.out.trans (ui.below (by omega))
set_option maxRecDepth 100000 in
set_option maxHeartbeats 8000000 in
theorem rcommit_any (F : Fo) (hF : WF F) (hsm : ∀ x ∈ F.nodes, SmallI x.2) (na : Option Addr) (nn nc : Nat) (oa : Option Addr) (on oc : Nat) (w : World) (hv : FoAt w F (.slice na nn nc) (.slice oa on oc)) (cv : Int) (ch : ByteArray) (ca : Option Addr) (cn cc : Nat) (h : ByteArray) (m : Bool) (ht : commitF F cv ch = (h, m)) :
    Calls Tryd.prog 41 #[.agg #[.string F.root, .int .i64 F.height, .slice na nn nc, .slice oa on oc], .agg #[.int .i64 cv, .string ch, .slice ca cn cc]] w fun e w' => e = .returned (.tuple #[.string h, .bool m]) ∧ Below w.heap.size w w' := by
  have HF := Lib.hid (And.intro hF hsm)
  have HV := Lib.hid hv
  have HT := Lib.hid ht
  have X1 := Lib.hid (((Below.refl w.heap.size w).alloc (Nat.le_refl _) (.cells #[.string F.root, .int .i64 F.height, .slice na nn nc, .slice oa on oc] 54)).alloc (by simp) (.cells #[.int .i64 cv, .string ch, .slice ca cn cc] 24))
  have P1 := Lib.hid (show Blk ((w.alloc (.cells #[.string F.root, .int .i64 F.height, .slice na nn nc, .slice oa on oc] 54)).alloc (.cells #[.int .i64 cv, .string ch, .slice ca cn cc] 24)) w.heap.size 4 (rowL [.string F.root, .int .i64 F.height, .slice na nn nc, .slice oa on oc]) from (Blk.new' rfl (row4_ _ _ _ _)).alloc _)
  have Q1 := Lib.hid (show Blk ((w.alloc (.cells #[.string F.root, .int .i64 F.height, .slice na nn nc, .slice oa on oc] 54)).alloc (.cells #[.int .i64 cv, .string ch, .slice ca cn cc] 24)) (w.heap.size + 1) 3 (rowL [.int .i64 cv, .string ch, .slice ca cn cc]) from Blk.new' (by simp) (row3_ _ _ _))
  clear hF hsm hv ht
  go_enter Tryd.func41, Tryd.ntmps41
  go_wp2_with fail
  refine (find_any F HF.out.1 HF.out.2 ch _ _ _ (HV.out.later X1.out)).mono ?_
  rintro e w2 ⟨v, p, j, k, a0, n0, c0, a1, n1, c1, bb, rfl, ho, hb⟩
  have HO0 := Lib.hid ho
  have X2 := Lib.hid ((X1.out.trans (hb.mono X1.out.size)).alloc (Nat.le_trans X1.out.size hb.size) (.cells #[.int .i64 v, .int .i64 p, .int .i64 j, .string k, .slice a0 n0 c0, .slice a1 n1 c1] 29))
  have P2 := Lib.hid ((P1.out.below hb P1.out.lt).alloc (.cells #[.int .i64 v, .int .i64 p, .int .i64 j, .string k, .slice a0 n0 c0, .slice a1 n1 c1] 29))
  have Q2 := Lib.hid ((Q1.out.below hb Q1.out.lt).alloc (.cells #[.int .i64 v, .int .i64 p, .int .i64 j, .string k, .slice a0 n0 c0, .slice a1 n1 c1] 29))
  have B00 := Lib.hid (show Blk (w2.alloc (.cells #[.int .i64 v, .int .i64 p, .int .i64 j, .string k, .slice a0 n0 c0, .slice a1 n1 c1] 29)) w2.heap.size 6 (rowL [.int .i64 v, .int .i64 p, .int .i64 j, .string k, .slice a0 n0 c0, .slice a1 n1 c1]) from Blk.new' rfl (row6_ _ _ _ _ _ _))
  clear ho hb
  obtain ⟨x0, x1, x2, x3⟩ := cells4 P2.out
  obtain ⟨y0, y1, y2⟩ := cells3 Q2.out
  obtain ⟨z00, z01, z02, z03, z04, z05⟩ := cells6 B00.out
  go_wp2_with fail
  refine (find_any F HF.out.1 HF.out.2 k _ _ _ (HV.out.later X2.out)).mono ?_
  rintro e w3 ⟨v', p', j', k', a0', n0', c0', a1', n1', c1', bb', rfl, ho, hb⟩
  have HO1 := Lib.hid ho
  have X3 := Lib.hid ((X2.out.trans (hb.mono X2.out.size)).alloc (Nat.le_trans X2.out.size hb.size) (.cells #[.int .i64 v', .int .i64 p', .int .i64 j', .string k', .slice a0' n0' c0', .slice a1' n1' c1'] 29))
  have P3 := Lib.hid ((P2.out.below hb P2.out.lt).alloc (.cells #[.int .i64 v', .int .i64 p', .int .i64 j', .string k', .slice a0' n0' c0', .slice a1' n1' c1'] 29))
  have Q3 := Lib.hid ((Q2.out.below hb Q2.out.lt).alloc (.cells #[.int .i64 v', .int .i64 p', .int .i64 j', .string k', .slice a0' n0' c0', .slice a1' n1' c1'] 29))
  have B11 := Lib.hid (show Blk (w3.alloc (.cells #[.int .i64 v', .int .i64 p', .int .i64 j', .string k', .slice a0' n0' c0', .slice a1' n1' c1'] 29)) w3.heap.size 6 (rowL [.int .i64 v', .int .i64 p', .int .i64 j', .string k', .slice a0' n0' c0', .slice a1' n1' c1']) from Blk.new' rfl (row6_ _ _ _ _ _ _))
  have B01 := Lib.hid ((B00.out.below hb B00.out.lt).alloc (.cells #[.int .i64 v', .int .i64 p', .int .i64 j', .string k', .slice a0' n0' c0', .slice a1' n1' c1'] 29))
  clear ho hb x0 x1 x2 x3 y0 y1 y2 z00 z01 z02 z03 z04 z05
  obtain ⟨x0, x1, x2, x3⟩ := cells4 P3.out
  obtain ⟨y0, y1, y2⟩ := cells3 Q3.out
  obtain ⟨z00, z01, z02, z03, z04, z05⟩ := cells6 B01.out
  obtain ⟨z10, z11, z12, z13, z14, z15⟩ := cells6 B11.out
  go_wp2_with fail
  refine (find_any F HF.out.1 HF.out.2 k' _ _ _ (HV.out.later X3.out)).mono ?_
  rintro e w4 ⟨v'', p'', j'', k'', a0'', n0'', c0'', a1'', n1'', c1'', bb'', rfl, ho, hb⟩
  have HO2 := Lib.hid ho
  have X4 := Lib.hid ((X3.out.trans (hb.mono X3.out.size)).alloc (Nat.le_trans X3.out.size hb.size) (.cells #[.int .i64 v'', .int .i64 p'', .int .i64 j'', .string k'', .slice a0'' n0'' c0'', .slice a1'' n1'' c1''] 29))
  have P4 := Lib.hid ((P3.out.below hb P3.out.lt).alloc (.cells #[.int .i64 v'', .int .i64 p'', .int .i64 j'', .string k'', .slice a0'' n0'' c0'', .slice a1'' n1'' c1''] 29))
  have Q4 := Lib.hid ((Q3.out.below hb Q3.out.lt).alloc (.cells #[.int .i64 v'', .int .i64 p'', .int .i64 j'', .string k'', .slice a0'' n0'' c0'', .slice a1'' n1'' c1''] 29))
  have B22 := Lib.hid (show Blk (w4.alloc (.cells #[.int .i64 v'', .int .i64 p'', .int .i64 j'', .string k'', .slice a0'' n0'' c0'', .slice a1'' n1'' c1''] 29)) w4.heap.size 6 (rowL [.int .i64 v'', .int .i64 p'', .int .i64 j'', .string k'', .slice a0'' n0'' c0'', .slice a1'' n1'' c1'']) from Blk.new' rfl (row6_ _ _ _ _ _ _))
  have B02 := Lib.hid ((B01.out.below hb B01.out.lt).alloc (.cells #[.int .i64 v'', .int .i64 p'', .int .i64 j'', .string k'', .slice a0'' n0'' c0'', .slice a1'' n1'' c1''] 29))
  have B12 := Lib.hid ((B11.out.below hb B11.out.lt).alloc (.cells #[.int .i64 v'', .int .i64 p'', .int .i64 j'', .string k'', .slice a0'' n0'' c0'', .slice a1'' n1'' c1''] 29))
  clear ho hb x0 x1 x2 x3 y0 y1 y2 z00 z01 z02 z03 z04 z05 z10 z11 z12 z13 z14 z15
  obtain ⟨x0, x1, x2, x3⟩ := cells4 P4.out
  obtain ⟨y0, y1, y2⟩ := cells3 Q4.out
  obtain ⟨z00, z01, z02, z03, z04, z05⟩ := cells6 B02.out
  obtain ⟨z10, z11, z12, z13, z14, z15⟩ := cells6 B12.out
  obtain ⟨z20, z21, z22, z23, z24, z25⟩ := cells6 B22.out
  cases bb with
  | false =>
    obtain ⟨rfl, rfl⟩ : (⟨#[]⟩ : ByteArray) = h ∧ false = m := by
      have := HT.out
      rw [rcom_no1 (Or.inl HO0.out.no.1)] at this
      exact ⟨congrArg Prod.fst this, congrArg Prod.snd this⟩
    go_wp2_with fail
    go_ret2
    exact ⟨rfl, X4.out⟩
  | true =>
    obtain ⟨b, hb1, hb2, _, _, hb5, _⟩ := HO0.out.yes
    have HB := Lib.hid (And.intro hb1 (And.intro hb2 hb5))
    clear hb1 hb2 hb5
    by_cases hv : v = cv
    · have HVV := Lib.hid hv
      subst hv
      cases bb' with
      | false =>
        obtain ⟨rfl, rfl⟩ : (⟨#[]⟩ : ByteArray) = h ∧ false = m := by
          have := HT.out
          rw [rcom_no2 HB.out.1 HB.out.2.1 (Or.inl (by rw [HB.out.2.2]; exact HO1.out.no.1))] at this
          exact ⟨congrArg Prod.fst this, congrArg Prod.snd this⟩
        go_wp2_with fail
        go_ret2
        exact ⟨rfl, X4.out⟩
      | true =>
        obtain ⟨b', hb1, hb2, _, _, hb5, _⟩ := HO1.out.yes
        have HB' := Lib.hid (And.intro hb1 (And.intro hb2 hb5))
        clear hb1 hb2 hb5
        cases bb'' with
        | false =>
          obtain ⟨rfl, rfl⟩ : (⟨#[]⟩ : ByteArray) = h ∧ false = m := by
            have := HT.out
            rw [rcom_no2 HB.out.1 HB.out.2.1 (Or.inr ⟨b', by rw [HB.out.2.2]; exact HB'.out.1, Or.inl (by rw [HB'.out.2.2]; exact HO2.out.no.1)⟩)] at this
            exact ⟨congrArg Prod.fst this, congrArg Prod.snd this⟩
          go_wp2_with fail
          go_ret2
          exact ⟨rfl, X4.out⟩
        | true =>
          go_wp2_with fail
          refine (find_any F HF.out.1 HF.out.2 k' _ _ _ (HV.out.later X4.out)).mono ?_
          rintro e w5 ⟨v3, p3, j3, k3, a03, n03, c03, a13, n13, c13, bb3, rfl, ho, hb⟩
          obtain ⟨g, hg1, hg2, _⟩ := HO2.out.yes
          obtain rfl : true = bb3 := by
            cases bb3 with
            | true => rfl
            | false =>
              have := ho.no.1
              rw [hg1] at this
              cases this
          obtain rfl : v'' = v3 := by
            obtain ⟨g', h1, h2, _⟩ := ho.yes
            rw [hg1] at h1
            injection h1 with h1
            rw [← hg2, ← h2, h1]
          have HG := Lib.hid (And.intro hg1 hg2)
          have X5 := Lib.hid ((X4.out.trans (hb.mono X4.out.size)).alloc (Nat.le_trans X4.out.size hb.size) (.cells #[.int .i64 v'', .int .i64 p3, .int .i64 j3, .string k3, .slice a03 n03 c03, .slice a13 n13 c13] 29))
          have E0 := Lib.hid ((B02.out.below hb B02.out.lt).alloc (.cells #[.int .i64 v'', .int .i64 p3, .int .i64 j3, .string k3, .slice a03 n03 c03, .slice a13 n13 c13] 29))
          have E1 := Lib.hid ((B12.out.below hb B12.out.lt).alloc (.cells #[.int .i64 v'', .int .i64 p3, .int .i64 j3, .string k3, .slice a03 n03 c03, .slice a13 n13 c13] 29))
          have E2 := Lib.hid (show Blk (w5.alloc (.cells #[.int .i64 v'', .int .i64 p3, .int .i64 j3, .string k3, .slice a03 n03 c03, .slice a13 n13 c13] 29)) w5.heap.size 6 (rowL [.int .i64 v'', .int .i64 p3, .int .i64 j3, .string k3, .slice a03 n03 c03, .slice a13 n13 c13]) from Blk.new' rfl (row6_ _ _ _ _ _ _))
          clear ho hb hg1 hg2 x0 x1 x2 x3 y0 y1 y2 z00 z01 z02 z03 z04 z05 z10 z11 z12 z13 z14 z15 z20 z21 z22 z23 z24 z25
          obtain ⟨z00, z01, z02, z03, z04, z05⟩ := cells6 E0.out
          obtain ⟨z10, z11, z12, z13, z14, z15⟩ := cells6 E1.out
          obtain ⟨z20, z21, z22, z23, z24, z25⟩ := cells6 E2.out
          obtain ⟨nv, hnv⟩ : ∃ nv, IntKind.i64.wrap (v' + 1) = nv := ⟨_, rfl⟩
          obtain ⟨nw, hnw⟩ : ∃ nw, IntKind.i64.wrap (v'' + 1) = nw := ⟨_, rfl⟩
          have HNV := Lib.hid (show nextV v' = nv from hnv)
          have HNW := Lib.hid (show nextV v'' = nw from hnw)
          by_cases h1 : nv = v
          · by_cases h2 : nw = v'
            · obtain ⟨rfl, rfl⟩ : k' = h ∧ true = m := by
                have := HT.out
                rw [rcom_yes HB.out.1 HB.out.2.1 (by rw [HB.out.2.2]; exact HB'.out.1) (by rw [HB.out.2.1, HB'.out.2.1, HNV.out, h1]) (by rw [HB'.out.2.2]; exact HG.out.1) (by rw [HB'.out.2.1, HG.out.2, HNW.out, h2]), HB'.out.2.2] at this
                exact ⟨congrArg Prod.fst this, congrArg Prod.snd this⟩
              subst h1 h2
              go_wp2_with fail
              go_ret2
              exact ⟨rfl, X5.out⟩
            · have H2 := Lib.hid h2
              have u2 : (nw == v') = false := beq_eq_false_iff_ne.2 h2
              obtain ⟨rfl, rfl⟩ : (⟨#[]⟩ : ByteArray) = h ∧ false = m := by
                have := HT.out
                rw [rcom_no2 HB.out.1 HB.out.2.1 (Or.inr ⟨b', by rw [HB.out.2.2]; exact HB'.out.1, Or.inr (Or.inr ⟨g, by rw [HB'.out.2.2]; exact HG.out.1, by rw [HB'.out.2.1, HG.out.2, HNW.out]; exact fun e => H2.out e.symm⟩)⟩)] at this
                exact ⟨congrArg Prod.fst this, congrArg Prod.snd this⟩
              subst h1
              clear h2
              go_wp2_with fail
              go_ret2
              exact ⟨rfl, X5.out⟩
          · have H1 := Lib.hid h1
            have u1 : (nv == v) = false := beq_eq_false_iff_ne.2 h1
            obtain ⟨rfl, rfl⟩ : (⟨#[]⟩ : ByteArray) = h ∧ false = m := by
              have := HT.out
              rw [rcom_no2 HB.out.1 HB.out.2.1 (Or.inr ⟨b', by rw [HB.out.2.2]; exact HB'.out.1, Or.inr (Or.inl (by rw [HB.out.2.1, HB'.out.2.1, HNV.out]; exact fun e => H1.out e.symm))⟩)] at this
              exact ⟨congrArg Prod.fst this, congrArg Prod.snd this⟩
            clear h1
            go_wp2_with fail
            go_ret2
            exact ⟨rfl, X5.out⟩
    · have HVV := Lib.hid hv
      have t1 : (v == cv) = false := beq_eq_false_iff_ne.2 hv
      clear hv
      obtain ⟨rfl, rfl⟩ : (⟨#[]⟩ : ByteArray) = h ∧ false = m := by
        have := HT.out
        rw [rcom_no1 (Or.inr ⟨b, HB.out.1, by rw [HB.out.2.1]; exact HVV.out⟩)] at this
        exact ⟨congrArg Prod.fst this, congrArg Prod.snd this⟩
      cases bb' <;> cases bb'' <;> (go_wp2_with fail; go_ret2; exact ⟨rfl, X4.out⟩)
end Go.Proofs.YtegkhhegapnkpaaDoor
end
