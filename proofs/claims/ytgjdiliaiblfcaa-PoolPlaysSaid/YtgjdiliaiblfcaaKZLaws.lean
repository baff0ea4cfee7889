/-
  The laws of layer 12, of the code that landed.
-/
import Derived.Test.YtgjdiliaiblfcaaKZDone
import Derived.Test.YtgjdiliaiblfcaaKPlanX
import Derived.Test.YtgjdiliaiblfcaaKJRow
import Derived.Test.YtgjdiliaiblfcaaKFAdopt
section
open Go Go.RowKit
namespace ZZ
open FF JJ WW BB
/-- the marks behind the first i of a list -/
def marksL (ks : List (Int × Int)) (l : List Rq) (i : Nat) : List (Int × Int) := ks ++ ((l.take i).map keyR).filter possK
theorem marks_zero (ks : List (Int × Int)) (l : List Rq) : marksL ks l 0 = ks := by unfold marksL; simp
end ZZ
namespace Go.Proofs.Ytgjdiliaiblfcaa
open ZZ FF JJ CC MM WW BB RR Go.Maps
theorem marks_succ (ks : List (Int × Int)) (l : List Rq) (i : Nat) (h : i < l.length) : marksL ks l (i + 1) = markK (marksL ks l i) (keyR (l.getD i r0)) := by
  unfold marksL markK
  rw [List.take_add_one, List.getElem?_eq_getElem h, List.getD_eq_getElem?_getD, List.getElem?_eq_getElem h]
  simp only [Option.toList_some, Option.getD_some, List.map_append, List.map_cons, List.map_nil, List.filter_append]
  cases hp : possK (keyR l[i]) with
  | false => simp [hp]
  | true => simp [hp]
theorem marksOf_all {ks : List (Int × Int)} {D l : List Rq} (h : MarksOf ks D) : MarksOf (marksL ks l l.length) (D ++ l) := by
  intro k hk
  rw [has_app, ← h k hk]
  unfold marksL hasR
  rw [List.take_length, Bool.eq_iff_iff]
  simp only [decide_eq_true_eq, Bool.or_eq_true, List.mem_append, List.mem_filter]
  exact ⟨fun x => x.imp id And.left, fun x => x.imp id fun y => ⟨y, hk⟩⟩
theorem good_poss {r : Rq} (h : goodR r) : possK (keyR r) = true := by
  obtain ⟨a, b, c, d, _⟩ := h
  exact decide_eq_true ⟨a, b, c, d⟩
/-- what isn't done stays -/
theorem stay_but {ks : List (Int × Int)} {W D l : List Rq} (h : MarksOf ks (D ++ l)) (hW : ∀ r ∈ W, hasR D (keyR r) = false) (hg : ∀ r ∈ W, goodR r) : (W.filter fun r => !decide (keyR r ∈ ks)) = butR W l := by
  unfold butR
  apply List.filter_congr
  intro r hr
  rw [h _ (good_poss (hg r hr)), has_app, hW r hr, Bool.false_or]
set_option maxRecDepth 100000 in
set_option maxHeartbeats 16000000 in
theorem done12 (O A : Nat → Prop) (w : World) (g : Nat) (p : Po) (v : Value) (l : List Rq) (h : At12 O w g p) (hi : InvP p) (hd : p.2.length ≤ 1000) (hl : l.length ≤ 20) (hv : Dep A w (fun w' => ReqsAt w' v l)) (hA : ∀ b, A b → ¬ O b) :
    Calls Try.prog 19 #[.pointer (some ⟨g, 0, none⟩), v] w fun e w' => e = .returned (.tuple #[]) ∧ Next12 At12 O w g (doneP p l) w' := by
  obtain ⟨W, D⟩ := p
  obtain ⟨ks, wv, mv, h1, h2, h3⟩ := h
  obtain ⟨i12, iD, _, iG⟩ := hi
  have HC := Lib.hid (show PqM w g W ks D.length wv mv from h1)
  have HMK := Lib.hid (show MarksOf ks D from h2)
  have HO := Lib.hid h3
  have H12 := Lib.hid (show W.length ≤ 12 from i12)
  have HWD := Lib.hid (show ∀ r ∈ W, hasR D (keyR r) = false from iD)
  have HWG := Lib.hid (show ∀ r ∈ W, goodR r from iG)
  have HD := Lib.hid (show D.length ≤ 1000 from hd)
  have HL := Lib.hid hl
  have HV := Lib.hid hv
  have HA := Lib.hid (fun b (hb : A b) => show b ≠ g ∧ mapBlk mv ≠ some b from ⟨fun e => hA b hb ((h3 b).2 (Or.inl e)), fun e => hA b hb ((h3 b).2 (Or.inr (Or.inr e)))⟩)
  obtain ⟨a0, cap, hsl, _⟩ := hv.now
  subst hsl
  clear h1 h2 h3 i12 iD iG hd hl hv hA
  go_enter Try.func19, Try.ntmps19
  go_wp2_with fail
  go_loopw [8] (fun y wr => ∃ i : Nat, i ≤ l.length ∧ y = .int .i64 (i : Int) ∧ ∃ mv', PqM wr g W (marksL ks l i) (D.length + i) wv mv' ∧ Keeps (fun b => b ≠ g ∧ mapBlk mv ≠ some b) w wr ∧ ∀ b, mapBlk mv' = some b → mapBlk mv = some b ∨ w.heap.size ≤ b) (fun y _ => l.length - (RowKit.intOf y).toNat)
  case atStart => exact ⟨0, Nat.zero_le _, rfl, mv, by rw [marks_zero]; exact HC.out, Keeps.refl _ _, fun b hb => Or.inl hb⟩
  case round =>
    obtain ⟨i, hi, rfl, mv', hpm, hkp, hml⟩ := hrel
    have HPM := Lib.hid hpm
    have HKP := Lib.hid hkp
    have HML := Lib.hid hml
    have i0 : (0 : Int) ≤ (i : Int) := by omega
    have ib : (i : Int) ≤ 20 := by have := HL.out; omega
    clear hpm hkp hml
    by_cases hlt : i < l.length
    · have hlt' : (i : Int) < (l.length : Int) := by omega
      have HLT := Lib.hid hlt
      have hR : ReqsAt wr (.slice a0 l.length cap) l := HV.out wr (HKP.out.sub fun b hb _ => HA.out b hb)
      obtain ⟨a1, cc1, he, hh | ⟨qb, off, h1, hbw, hcell⟩⟩ := hR
      · rw [hh] at hlt; simp at hlt
      injection he with e1 _ e3
      subst e1 e3 h1
      obtain ⟨q0, q1, q2⟩ := JJ.reqs_at (Below.refl _ _) hbw hcell i hlt
      obtain ⟨r, hr⟩ : ∃ r, l.getD i r0 = r := ⟨_, rfl⟩
      have HSU := Lib.hid (marks_succ ks l i hlt)
      rw [hr] at q0 q1 q2 HSU
      obtain ⟨c, s, t⟩ := r
      have X1 := Lib.hid ((Below.refl wr.heap.size wr).alloc (Nat.le_refl _) (.cells #[.int .i64 c, .int .i64 s, .string t] 33))
      have HNB := Lib.hid (show D.length + i ≤ 2000 by have := HD.out; omega)
      clear hi hlt hbw hcell hr
      go_wp2_with fail
      refine (znum_is (c, s, t) _).mono ?_
      rintro e w2 ⟨rfl, hb2⟩
      have B2 := Lib.hid (X1.out.trans (hb2.mono X1.out.size))
      clear hb2 q0 q1 q2
      go_wp2_with fail
      refine (mark_any (HPM.out.on B2.out) (c, s) HNB.out).mono ?_
      rintro e w3 ⟨rfl, mv3, hm3, hk3, hl3⟩
      have M3 := Lib.hid hm3
      have K3 := Lib.hid hk3
      have L3 := Lib.hid hl3
      clear hm3 hk3 hl3
      go_wp2_with fail
      go_roundw
      case rel =>
        have hz : w.heap.size ≤ w2.heap.size := Nat.le_trans HKP.out.b0.size B2.out.size
        refine ⟨i + 1, by have := HLT.out; omega, by go_num, mv3, by rw [HSU.out]; exact M3.out, ?_, fun b hb => ?_⟩
        · refine ⟨HKP.out.b0.trans ((Keeps.of (A := fun _ => True) B2.out).b0.trans K3.out.b0), fun b hb hl => ?_⟩
          have hl2 : b < w2.heap.size := by omega
          refine (K3.out.block b ⟨hb.1, fun e => ?_⟩ hl2).trans ((B2.out.block b (Nat.lt_of_lt_of_le hl HKP.out.b0.size)).trans (HKP.out.block b hb hl))
          rcases HML.out b e with h | h
          · exact hb.2 h
          · omega
        · rcases L3.out b hb with h | h
          · exact HML.out b h
          · exact Or.inr (Nat.le_trans hz h)
      case measure => have := HLT.out; simp [RowKit.intOf]; omega
    · obtain rfl : i = l.length := by omega
      have hlt' : ¬ (l.length : Int) < (l.length : Int) := by omega
      have HMO := Lib.hid (marksOf_all (l := l) HMK.out)
      have HST := Lib.hid (stay_but HMO.out HWD.out HWG.out)
      obtain ⟨c0, _⟩ := HPM.out.cells
      clear hi hlt
      obtain ⟨K, hK⟩ : ∃ K, marksL ks l l.length = K := ⟨_, rfl⟩
      rw [hK] at HPM HMO HST
      clear hK
      have HFIN := Lib.hid (fun (w5 : World) (wv5 : Value) (hown : w5.ownsRow 0 33 3 wv5 (butR W l).length (cellsR (butR W l))) (hk5 : Keeps (fun b => wv.ownBlock ≠ some b) wr w5) (hloc : ∀ b, wv5.ownBlock = some b → wv.ownBlock = some b ∨ wr.heap.size ≤ b) => show Next12 At12 O w g (doneP (W, D) l) (w5.setCell ⟨g, 0, none⟩ wv5) from by
        obtain ⟨hp, hkk⟩ := HPM.out.newrow hown hk5 hloc
        have hz := HKP.out.b0.size
        refine ⟨OwnQ g wv5 mv', ⟨K, wv5, mv', by show PqM _ g (butR W l) K (D ++ l).length wv5 mv'; rw [List.length_append]; exact hp, HMO.out, fun _ => Iff.rfl⟩, ?_, ?_⟩
        · refine ⟨HKP.out.b0.trans hkk.b0, fun b hb hl => ?_⟩
          have hb' : ¬ OwnQ g wv mv b := fun c => hb ((HO.out b).2 c)
          exact (hkk.block b ⟨fun e => hb' (Or.inr (Or.inl e)), fun e => hb' (Or.inl e)⟩ (Nat.lt_of_lt_of_le hl hz)).trans (HKP.out.block b ⟨fun e => hb' (Or.inl e), fun e => hb' (Or.inr (Or.inr e))⟩ hl)
        · rintro b (h | h | h)
          · exact Or.inl ((HO.out b).2 (Or.inl h))
          · rcases hloc b h with h | h
            · exact Or.inl ((HO.out b).2 (Or.inr (Or.inl h)))
            · exact Or.inr (Nat.le_trans hz h)
          · rcases HML.out b h with h | h
            · exact Or.inl ((HO.out b).2 (Or.inr (Or.inr h)))
            · exact Or.inr h)
      rcases HPM.out.row.2 with ⟨hwv, h0⟩ | ⟨q, cp, cur, hwv, _, hh, hcp, hmx, _⟩
      · subst hwv
        obtain rfl : W = [] := List.eq_nil_of_length_eq_zero h0
        clear h0
        go_wp2_with fail
        refine (zdel_nil _ wr).mono ?_
        rintro e w3 ⟨rfl, hb3⟩
        have HC3 := Lib.hid (HPM.out.on hb3)
        have B3 := Lib.hid hb3
        obtain ⟨e0, _⟩ := HC3.out.cells
        have f0 := HC3.out.blk.blk.frz 0
        clear hb3 c0
        go_wp2_with fail
        go_end0
        exact ⟨rfl, HFIN.out _ _ (World.ownsRow_nil _ _ _ _) (Keeps.of B3.out) fun b hb => by cases hb⟩
      · subst hwv
        have HRQ := Lib.hid (rqr_of_own HPM.out.row)
        have HQG := Lib.hid (show q ≠ g from fun e => HPM.out.gw (by rw [e]; rfl))
        have HQM := Lib.hid (fun b (hb : mapBlk mv' = some b) => show b ≠ q from fun e => HPM.out.wm q rfl (e ▸ hb))
        have HMX := Lib.hid hmx
        clear hh hcp hmx
        go_wp2_with fail
        refine (zdel_any W q 0 cp (.func (.func 27) #[.pointer (some ⟨g, 0, none⟩)] #[]) (fun r => decide (keyR r ∈ K)) wr HRQ.out (by have := H12.out; omega) fun r hr wx hk => ?_).mono ?_
        · refine ⟨_, _, _, rfl, own_isdone, isdone_any r g (D.length + l.length) (.slice (some ⟨q, 0, none⟩) W.length cp) mv' K _ wx ?_ ?_ (poss64 (good_poss (HWG.out r hr))) rfl⟩
          · exact HPM.out.blk.blk.of_heap (hk.block g HPM.out.blk.lt fun e => HQG.out e.symm)
          · exact HPM.out.map.keep fun b hb => hk.block b (HPM.out.map.lt b hb) (HQM.out b hb)
        · rintro e w3 ⟨rfl, hk3, hr3⟩
          have K3 := Lib.hid hk3
          have R3 := Lib.hid hr3
          have HB3 := Lib.hid (HPM.out.blk.blk.of_heap (hk3.block g HPM.out.blk.lt fun e => HQG.out e.symm))
          obtain ⟨e0, _⟩ := cells2 HB3.out
          have f0 := HB3.out.frz 0
          clear hk3 hr3 c0
          go_wp2_with fail
          go_end0
          refine ⟨rfl, HFIN.out _ _ (by rw [← HST.out]; exact own_of_rqr R3.out (Nat.zero_le _) HMX.out) ⟨K3.out.below (Nat.zero_le _) (Nat.zero_le _), fun b hb hl => K3.out.block b hl fun e => hb (by rw [e]; rfl)⟩ fun b hb => Or.inl hb⟩
end Go.Proofs.Ytgjdiliaiblfcaa
end
section
open Go Go.RowKit
namespace ZZ
open FF JJ WW BB
theorem zgood_iff (r : Rq) : goodR r ↔ possK (keyR r) = true ∧ r.2.2.size ≤ 40 := by
  unfold goodR rightR possK keyR
  rw [decide_eq_true_iff]
  constructor
  · rintro ⟨a, b, c, d, e⟩; exact ⟨⟨a, b, c, d⟩, e⟩
  · rintro ⟨⟨a, b, c, d⟩, e⟩; exact ⟨a, b, c, d, e⟩
/-- an append whose run is known -/
theorem wpl_append_runZ {P : Program} {w w' : World} {ops : Array Oper} {rest : List Oper} {o : Oper} {a : Act} {Q : Exit → Act → World → Prop} {v' : Value} (hgd : o.guard = none) (s x : Operand) (t : TypeId)
    (ho : o.op = .call { callee := .builtin .append, args := #[s, x], argTypes := #[t, t] }) (hr : (Builtin.append_ #[t, t] o.type #[a.eval s, a.eval x]).run P w = .ok v' w') (h : wpList P ops Q rest (a.put o.dst v') w') : wpList P ops Q (o :: rest) a w := by
  refine wpList_plain hgd fun K hK => ?_
  unfold Oper.wp execOp
  simp only [ho, resolve, invoke, builtin, Sem.run_bind, Sem.run_pure, Result.andThen_ok, List.map_toArray, List.map_cons, List.map_nil, hr]
  exact hK _ _ h
theorem but_take_pre (W m : List Rq) (i : Nat) : ∃ r, butR W m = butR (W.take i) m ++ r := by
  refine ⟨butR (W.drop i) m, ?_⟩
  unfold butR
  rw [← List.filter_append, List.take_append_drop]
theorem but_enough (W m : List Rq) (i n : Nat) (h1 : (butR (W.take i) m).length = n) : (butR W m).take n = butR (W.take i) m := by
  obtain ⟨r, h⟩ := but_take_pre W m i
  rw [h, List.take_append_of_le_length (by omega), List.take_of_length_le (by omega)]
theorem but_succ (W m : List Rq) (i : Nat) (h : i < W.length) : butR (W.take (i + 1)) m = if hasR m (keyR (W.getD i r0)) = true then butR (W.take i) m else butR (W.take i) m ++ [W.getD i r0] := by
  rw [List.take_add_one, List.getElem?_eq_getElem h, List.getD_eq_getElem?_getD, List.getElem?_eq_getElem h]
  exact but_snoc _ _ _
end ZZ
namespace Go.Proofs.Ytgjdiliaiblfcaa
open ZZ FF JJ CC MM WW BB RR Go.Maps
set_option maxRecDepth 100000 in
set_option maxHeartbeats 16000000 in
theorem take12 (O : Nat → Prop) (w : World) (g : Nat) (p : Po) (n : Int) (v : Value) (m : List Rq) (h : At12 O w g p) (hi : InvP p) (hv : ReqsAt w v m) (hm : m.length ≤ 100) (hn : -9223372036854775808 ≤ n ∧ n ≤ 9223372036854775807) :
    Calls Try.prog 18 #[.pointer (some ⟨g, 0, none⟩), .int .i64 n, v] w fun e w' => ∃ u, e = .returned u ∧ ReqsAt w' u ((butR p.1 m).take n.toNat) ∧ Below w.heap.size w w' := by
  obtain ⟨W, D⟩ := p
  obtain ⟨ks, wv, mv, h1, _, _⟩ := h
  have HC := Lib.hid (show PqM w g W ks D.length wv mv from h1)
  have H12 := Lib.hid (show W.length ≤ 12 from hi.1)
  have HR := Lib.hid (show ReqsAt w wv W from HC.out.reqs)
  have HV := Lib.hid hv
  have HM := Lib.hid hm
  show Calls Try.prog 18 #[.pointer (some ⟨g, 0, none⟩), .int .i64 n, v] w fun e w' => ∃ u, e = .returned u ∧ ReqsAt w' u ((butR W m).take n.toNat) ∧ Below w.heap.size w w'
  obtain ⟨a0, cap, rfl, _⟩ := hv
  obtain ⟨wa, wc, rfl⟩ := HC.out.shapeW
  clear h1 hi hm hn
  go_enter Try.func18, Try.ntmps18
  go_wp2_with fail
  refine (zamong_any _ w a0 m.length cap rfl).mono ?_
  rintro e w2 ⟨rfl, hb2, hz2, hg2⟩
  have B2 := Lib.hid hb2
  have Z2 := Lib.hid hz2
  have HA := Lib.hid (fun (k : Int × Int) (X : Bool) (hX : hasR m k = X) (wx : World) (hb : Below (w.heap.size + 1) w2 wx) => among1_any m (.slice a0 m.length cap) k w.heap.size X hX wx (hg2.of_heap (hb.block _ (Nat.lt_succ_self _))) (HV.out.later (hb2.trans (hb.mono (Nat.le_succ _)))) (by have := HM.out; omega))
  have HC2 := Lib.hid (HC.out.on hb2)
  have HR2 := Lib.hid (HR.out.later hb2)
  obtain ⟨c0, _⟩ := HC2.out.cells
  clear hb2 hz2 hg2
  go_wp2_with fail
  clear c0
  go_loopw [8, 18] (fun x y wr => ∃ i : Nat, i ≤ W.length ∧ y = .int .i64 (i : Int) ∧ ∃ a c, x = .slice a (butR (W.take i) m).length c ∧ (butR (W.take i) m).length ≤ n.toNat ∧ wr.ownsRow (w.heap.size + 1) 33 3 x (butR (W.take i) m).length (cellsR (butR (W.take i) m)) ∧ Below (w.heap.size + 1) w2 wr) (fun _ y _ => W.length - (RowKit.intOf y).toNat)
  case atStart =>
    refine ⟨0, Nat.zero_le _, rfl, none, 0, rfl, Nat.zero_le _, World.ownsRow_nil _ _ _ _, Below.refl _ _⟩
  case round =>
    obtain ⟨i, hi, rfl, xa, xc, rfl, hle, hrow, hbr⟩ := hrel
    obtain ⟨out, hout⟩ : ∃ out, butR (W.take i) m = out := ⟨_, rfl⟩
    have HOUT := Lib.hid hout
    rw [hout] at hle hrow ⊢
    have HLE := Lib.hid hle
    have HROW := Lib.hid hrow
    have HBR := Lib.hid hbr
    have HOL := Lib.hid (show out.length ≤ 12 by
      have h1 := but_len (W.take i) m
      rw [hout, List.length_take] at h1
      have := H12.out; omega)
    have i0 : (0 : Int) ≤ (i : Int) := by omega
    have ib : (i : Int) ≤ 12 := by have := H12.out; omega
    clear hle hrow hbr hout
    by_cases hlt : i < W.length
    · have hlt' : (i : Int) < (W.length : Int) := by omega
      have HLT := Lib.hid hlt
      have HW2 := Lib.hid (show w2.heap.size = w.heap.size + 1 from Z2.out)
      obtain ⟨a1, cc1, he, hh | ⟨qb, off, h1, hbw, hcell⟩⟩ := HR2.out
      · rw [hh] at hlt; simp at hlt
      injection he with e1 _ e3
      subst e1 e3 h1
      obtain ⟨q0, q1, q2⟩ := JJ.reqs_at (show Below w2.heap.size w2 wr by rw [HW2.out]; exact HBR.out) hbw hcell i hlt
      obtain ⟨r, hr⟩ : ∃ r, W.getD i r0 = r := ⟨_, rfl⟩
      have HSU := Lib.hid (but_succ W m i hlt)
      rw [hr, HOUT.out] at HSU
      rw [hr] at q0 q1 q2
      obtain ⟨c, s, t⟩ := r
      have X1 := Lib.hid ((Below.refl wr.heap.size wr).alloc (Nat.le_refl _) (.cells #[.int .i64 c, .int .i64 s, .string t] 33))
      have R1 := Lib.hid (show Blk (wr.alloc (.cells #[.int .i64 c, .int .i64 s, .string t] 33)) wr.heap.size 3 (rowL [.int .i64 c, .int .i64 s, .string t]) from Blk.new' rfl (row3_ _ _ _))
      clear hi hlt hbw hcell hr
      by_cases hfull : n ≤ (out.length : Int)
      · have HF := Lib.hid (show (butR W m).take n.toNat = out by
          have := but_enough W m i n.toNat (by rw [HOUT.out]; have := HLE.out; omega)
          rw [HOUT.out] at this; exact this)
        go_wp2_with fail
        go_ret
        refine ⟨_, rfl, ?_, B2.out.trans ((HBR.out.mono (Nat.le_succ _)).trans (X1.out.mono ?_))⟩
        · rw [HF.out]
          exact (reqs_of_own HROW.out).later X1.out
        · exact Nat.le_trans (by rw [HW2.out]; exact Nat.le_succ _) HBR.out.size
      · have HNF := Lib.hid hfull
        go_upto_region 7 with fail
        obtain ⟨w3, hw3⟩ : ∃ w3, wr.alloc (.cells #[.int .i64 c, .int .i64 s, .string t] 33) = w3 := ⟨_, rfl⟩
        obtain ⟨y, hy⟩ : ∃ y, wr.heap.size = y := ⟨_, rfl⟩
        have HY := Lib.hid hy
        rw [hw3] at X1 R1
        rw [hy] at R1
        rw [hw3, hy]
        clear hw3 hy q0 q1 q2
        obtain ⟨d0, d1, d2⟩ := cells3 R1.out
        go_wp2_with fail
        refine (znum_is (c, s, t) _).mono ?_
        rintro e w4 ⟨rfl, hb4⟩
        have B4 := Lib.hid (X1.out.trans (hb4.mono X1.out.size))
        have R4 := Lib.hid (R1.out.below hb4 R1.out.lt)
        have HZ := Lib.hid (show w.heap.size + 1 ≤ wr.heap.size from HW2.out ▸ HBR.out.size)
        clear hb4 d0 d1 d2
        obtain ⟨X, hX⟩ : ∃ X, hasR m (c, s) = X := ⟨_, rfl⟩
        have HX := Lib.hid hX
        clear hX
        go_wp2_with (with_reducible refine hold_callv rfl rfl ?_)
        refine wpl_callw (v := .func (.func 29) #[] #[.pointer (some ⟨w.heap.size, 0, none⟩)]) (args := #[.agg #[.int .i64 c, .int .i64 s]]) _ rfl rfl rfl (by simp [Act.eval]) ⟨_, _, _, rfl, own_among1, HA.out (c, s) X HX.out w4 (HBR.out.trans (B4.out.mono HZ.out))⟩ (fun e w' h => ⟨_, h.1⟩) ?_
        rintro u w5 ⟨hu, hb5⟩
        injection hu with hu
        subst hu
        have B5 := Lib.hid (B4.out.trans (hb5.mono B4.out.size))
        have R5 := Lib.hid (R4.out.below hb5 R4.out.lt)
        have BR5 := Lib.hid (HBR.out.trans (B5.out.mono HZ.out))
        have HRW5 := Lib.hid (row_keep HROW.out fun c hc => B5.out.block c (HROW.out.lt c hc).2)
        clear hb5
        rcases X with _ | _
        · have HEQ := Lib.hid (show butR (W.take (i + 1)) m = out ++ [(c, s, t)] by rw [HSU.out, if_neg (by show ¬ hasR m (c, s) = true; rw [HX.out]; decide)])
          obtain ⟨d0, d1, d2⟩ := cells3 R5.out
          have A5 := Lib.hid ((Below.refl w5.heap.size w5).alloc (Nat.le_refl _) (.cells #[.int .i64 c, .int .i64 s, .string t] 33))
          have RA := Lib.hid (row_keep HRW5.out fun c hc => A5.out.block c (HRW5.out.lt c hc).2)
          have BRA := Lib.hid (BR5.out.trans (A5.out.mono (Nat.le_trans HZ.out B5.out.size)))
          obtain ⟨ti, i1, i2, i3, i4⟩ := info_parts info_reqZ
          obtain ⟨u', w6, hrun, hown, hgr, _, _⟩ := run_append_own_at (P := Try.prog) (w := w5.alloc (.cells #[.int .i64 c, .int .i64 s, .string t] 33)) (w.heap.size + 1) 27 27 33 ti _ 3 32 und_reqsZ i1 i2 i3 i4 rfl (by decide) _ out.length (cellsR out) RA.out ⟨w5.heap.size, 0, none⟩ 1 1 [.int .i64 c, .int .i64 s, .string t] rfl (cells3_new w5 c s t _) (cells3_one c s t) (by have := HOL.out; unfold maxLen; omega) (by have := HOL.out; omega) (Nat.le_trans HZ.out (Nat.le_trans B5.out.size A5.out.size))
          obtain ⟨ua, uc, rfl⟩ := own_slZ hown
          have HOW := Lib.hid (show w6.ownsRow (w.heap.size + 1) 33 3 (.slice ua (out.length + 1) uc) (out ++ [(c, s, t)]).length (cellsR (out ++ [(c, s, t)])) by rw [cellsR_snoc, List.length_append]; exact hown)
          have BR6 := Lib.hid (BRA.out.grown hgr (Nat.le_trans HZ.out (Nat.le_trans B5.out.size A5.out.size)) (fun k hk => (RA.out.lt k hk).1))
          clear hown hgr i1 i2 i3 i4
          go_wp2_with (at_builtin; refine wpl_append_runZ rfl _ _ _ rfl hrun ?_)
          clear hrun d0 d1 d2
          go_roundw
          case rel =>
            refine ⟨i + 1, by have := HLT.out; omega, by go_num, ua, uc, by rw [HEQ.out, List.length_append]; rfl, ?_, by rw [HEQ.out]; exact HOW.out, BR6.out⟩
            rw [HEQ.out, List.length_append, List.length_singleton]
            have := HNF.out; omega
          case measure => have := HLT.out; simp [RowKit.intOf]; omega
        · have HEQ := Lib.hid (show butR (W.take (i + 1)) m = out by rw [HSU.out, if_pos (by show hasR m (c, s) = true; exact HX.out)])
          go_wp2_with fail
          go_roundw
          case rel => exact ⟨i + 1, by have := HLT.out; omega, by go_num, xa, xc, by rw [HEQ.out], by rw [HEQ.out]; exact HLE.out, by rw [HEQ.out]; exact HRW5.out, BR5.out⟩
          case measure => have := HLT.out; simp [RowKit.intOf]; omega
    · obtain rfl : i = W.length := by omega
      have hlt' : ¬ (W.length : Int) < (W.length : Int) := by omega
      have HFIN := Lib.hid (show (butR W m).take n.toNat = out by rw [← HOUT.out, List.take_length, List.take_of_length_le (by have := HLE.out; rw [← HOUT.out, List.take_length] at this; exact this)])
      clear hi hlt
      go_wp2_with fail
      go_ret
      refine ⟨_, rfl, ?_, B2.out.trans (HBR.out.mono (Nat.le_succ _))⟩
      rw [HFIN.out]
      exact reqs_of_own HROW.out
set_option maxRecDepth 100000 in
set_option maxHeartbeats 16000000 in
theorem add12 (O : Nat → Prop) (w : World) (g : Nat) (p : Po) (r : Rq) (h : At12 O w g p) (hi : InvP p) (hd : p.2.length ≤ 1000) (hr : r.2.2.size ≤ 9223372036854775807) :
    Calls Try.prog 20 #[.pointer (some ⟨g, 0, none⟩), rqV r] w fun e w' => e = .returned (.int .i64 (addP p r).2) ∧ Next12 At12 O w g (addP p r).1 w' := by
  have HAT := Lib.hid h
  have HI := Lib.hid hi
  obtain ⟨W, D⟩ := p
  obtain ⟨ks, wv, mv, h1, h2, h3⟩ := h
  have HC := Lib.hid (show PqM w g W ks D.length wv mv from h1)
  have HMK := Lib.hid (show MarksOf ks D from h2)
  have HO := Lib.hid h3
  have H12 := Lib.hid (show W.length ≤ 12 from hi.1)
  have HD := Lib.hid (show D.length ≤ 1000 from hd)
  have HKEEP := Lib.hid (fun (wx : World) (hb : Below w.heap.size w wx) => show Next12 At12 O w g (W, D) wx from ⟨O, at12_keep HAT.out (Keeps.of hb), Keeps.of hb, fun b hb => Or.inl hb⟩)
  have HHAS := Lib.hid (fun (wx : World) (hb : Below w.heap.size w wx) (c q : Int) => has12 O wx g (W, D) c q (at12_keep HAT.out (Keeps.of hb)) HI.out)
  obtain ⟨wa, wc, rfl⟩ := h1.shapeW
  have HGOOD := Lib.hid (zgood_iff r)
  obtain ⟨R, hR⟩ : ∃ R, addP (W, D) r = R := ⟨_, rfl⟩
  rw [hR]
  obtain ⟨c, s, t⟩ := r
  have HADD := Lib.hid (show (if ¬ goodR (c, s, t) then ((W, D), (1 : Int)) else if hasR D (c, s) = true then ((W, D), 9) else if hasR W (c, s) = true then ((W, D), 6) else if W.length = 12 then ((W, D), 7) else ((W ++ [(c, s, t)], D), 0)) = R from hR)
  have HRS := Lib.hid (show t.size ≤ 9223372036854775807 from hr)
  show Calls Try.prog 20 #[.pointer (some ⟨g, 0, none⟩), .agg #[.int .i64 c, .int .i64 s, .string t]] w fun e w' => e = .returned (.int .i64 R.2) ∧ Next12 At12 O w g R.1 w'
  have X1 := Lib.hid ((Below.refl w.heap.size w).alloc (Nat.le_refl _) (.cells #[.int .i64 c, .int .i64 s, .string t] 33))
  have R1 := Lib.hid (show Blk (w.alloc (.cells #[.int .i64 c, .int .i64 s, .string t] 33)) w.heap.size 3 (rowL [.int .i64 c, .int .i64 s, .string t]) from Blk.new' rfl (row3_ _ _ _))
  clear h1 h2 h3 hi hd hr hR
  obtain ⟨X, hX⟩ : ∃ X, possK (c, s) = X := ⟨_, rfl⟩
  have HX := Lib.hid hX
  clear hX
  go_enter Try.func20, Try.ntmps20
  go_upto_region 1 with fail
  obtain ⟨w1, hw1⟩ : ∃ w1, w.alloc (.cells #[.int .i64 c, .int .i64 s, .string t] 33) = w1 := ⟨_, rfl⟩
  obtain ⟨y, hy⟩ : ∃ y, w.heap.size = y := ⟨_, rfl⟩
  have HY := Lib.hid hy
  rw [hw1] at X1 R1 ⊢
  rw [hy] at R1 ⊢
  clear hw1 hy
  obtain ⟨d0, d1, d2⟩ := cells3 R1.out
  go_wp2_with fail
  refine (znum_is (c, s, t) _).mono ?_
  rintro e w2 ⟨rfl, hb2⟩
  have B2 := Lib.hid (X1.out.trans (hb2.mono X1.out.size))
  have R2 := Lib.hid (R1.out.below hb2 R1.out.lt)
  clear hb2 d0 d1 d2
  go_wp2_with fail
  refine (zposs_is c s X HX.out _).mono ?_
  rintro e w3 ⟨rfl, hb3⟩
  have B3 := Lib.hid (B2.out.trans (hb3.mono B2.out.size))
  have R3 := Lib.hid (R2.out.below hb3 R2.out.lt)
  clear hb3
  obtain ⟨d0, d1, d2⟩ := cells3 R3.out
  rcases X with _ | _
  · have HRES := Lib.hid (show R = ((W, D), 1) by
      rw [← HADD.out]
      rw [if_pos fun h => by have := (HGOOD.out.1 h).1; rw [show keyR (c, s, t) = (c, s) from rfl, HX.out] at this; cases this])
    go_wp2_with fail
    go_ret
    rw [HRES.out]
    exact ⟨rfl, HKEEP.out _ B3.out⟩
  · by_cases hsz : 40 < t.size
    · have HRES := Lib.hid (show R = ((W, D), 1) by
        rw [← HADD.out]
        rw [if_pos fun h => by have := (HGOOD.out.1 h).2; have : t.size ≤ 40 := this; omega])
      have hgt : (40 : Int) < (t.size : Int) := by omega
      clear hsz
      go_wp2_with fail
      go_ret
      rw [HRES.out]
      exact ⟨rfl, HKEEP.out _ B3.out⟩
    · have HG := Lib.hid (show goodR (c, s, t) from HGOOD.out.2 ⟨HX.out, by show t.size ≤ 40; omega⟩)
      have hgt : ¬ (40 : Int) < (t.size : Int) := by omega
      have HC3 := Lib.hid (HC.out.on B3.out)
      obtain ⟨Y, hY⟩ : ∃ Y, decide ((c, s) ∈ ks) = Y := ⟨_, rfl⟩
      have HYD := Lib.hid (show hasR D (c, s) = Y by rw [← hY]; exact (HMK.out (c, s) HX.out).symm)
      have HYY := Lib.hid hY
      clear hsz hY
      go_wp2_with fail
      refine (isdone_any (c, s, t) g D.length _ mv ks Y w3 HC3.out.blk.blk HC3.out.map (poss64 HX.out) HYY.out).mono ?_
      rintro e w4 ⟨rfl, hb4⟩
      have B4 := Lib.hid (B3.out.trans (hb4.mono B3.out.size))
      have R4 := Lib.hid (R3.out.below hb4 R3.out.lt)
      clear hb4 d0 d1 d2 hgt
      rcases Y with _ | _
      · obtain ⟨d0, d1, d2⟩ := cells3 R4.out
        obtain ⟨Z, hZ⟩ : ∃ Z, hasR W (c, s) = Z := ⟨_, rfl⟩
        have HZZ := Lib.hid hZ
        clear hZ
        go_wp2_with fail
        refine (HHAS.out w4 B4.out c s).mono ?_
        rintro e w5 ⟨rfl, hb5⟩
        have B5 := Lib.hid (B4.out.trans (hb5.mono B4.out.size))
        have R5 := Lib.hid (R4.out.below hb5 R4.out.lt)
        have HC5 := Lib.hid (HC.out.on B5.out)
        clear hb5 d0 d1 d2
        rw [show hasR (W, D).1 (c, s) = Z from HZZ.out]
        rcases Z with _ | _
        · obtain ⟨m0, _⟩ := HC5.out.cells
          by_cases hf : W.length = 12
          · have HRES := Lib.hid (show R = ((W, D), 7) by
              rw [← HADD.out]
              rw [if_neg (fun h => h HG.out), if_neg (by rw [HYD.out]; decide), if_neg (by rw [HZZ.out]; decide), if_pos hf])
            have hge : (12 : Int) ≤ (W.length : Int) := by omega
            clear hf
            go_wp2_with fail
            go_ret
            rw [HRES.out]
            exact ⟨rfl, HKEEP.out _ B5.out⟩
          · have HRES := Lib.hid (show R = ((W ++ [(c, s, t)], D), 0) by
              rw [← HADD.out]
              rw [if_neg (fun h => h HG.out), if_neg (by rw [HYD.out]; decide), if_neg (by rw [HZZ.out]; decide), if_neg hf])
            have hge : ¬ (12 : Int) ≤ (W.length : Int) := by have := H12.out; omega
            have HYG := Lib.hid (show y ≠ g from by have := HC.out.blk.lt; have := HY.out; omega)
            clear hf
            go_upto_region 9 with fail
            clear m0
            have HSD := Lib.hid (fun (wx : World) (hk : wx.heap[g]? = w5.heap[g]? ∧ wx.heap[y]? = w5.heap[y]?) => And.intro (RR.cells2 (HC5.out.blk.blk.of_heap hk.1)) (RR.cells3 (R5.out.of_heap hk.2)))
            refine planE_abs (fun wx => wx.heap[g]? = w5.heap[g]? ∧ wx.heap[y]? = w5.heap[y]?) 10 [(true, 0), (true, 1), (true, 2), (true, 3), (true, 4), (true, 5), (false, 6), (false, 7), (false, 8), (false, 9), (false, 10)] (by kernel_rfl) (by kernel_rfl) (fun _ _ d _ _ h => by cases d <;> exact h) fun w6 hs6 => ⟨by rw [hs6.heap]; exact ⟨rfl, rfl⟩, ?_⟩
            have Y6 := Lib.hid (show Below w5.heap.size w5 w6 from hs6.below _)
            clear hs6
            have H6 := Lib.hid (HC5.out.on Y6.out)
            iterate 6 (refine pe_run _ ?_ rfl rfl ?_ ?_; rotate_left; (focus (intro w' hS; obtain ⟨⟨c0, c1⟩, d0, d1, d2⟩ := HSD.out w' hS; go_simp; exact rfl)); simp only [Act.put, List.setIfInBounds_toArray, List.set_cons_zero, List.set_cons_succ, List.getElem_toArray, List.getElem_cons_zero, List.getElem_cons_succ])
            have BA := Lib.hid ((Below.refl w6.heap.size w6).alloc (Nat.le_refl _) (.cells #[.int .i64 c, .int .i64 s, .string t] 33))
            have HNW := Lib.hid (cells3_new w6 c s t 33)
            obtain ⟨wx, hwx⟩ : ∃ wx, w6.alloc (.cells #[.int .i64 c, .int .i64 s, .string t] 33) = wx := ⟨_, rfl⟩
            have HK6 := Lib.hid (fun (wz : World) (hb : Below w6.heap.size w6 wz) => show wz.heap[g]? = w5.heap[g]? ∧ wz.heap[y]? = w5.heap[y]? from ⟨(Y6.out.trans (hb.mono Y6.out.size)).block g HC5.out.blk.lt, (Y6.out.trans (hb.mono Y6.out.size)).block y R5.out.lt⟩)
            refine pe_value (w' := wx) _ (.slice (some ⟨w6.heap.size, 0, none⟩) 1 1) rfl rfl (by rw [← hwx]; go_simp) (HK6.out wx (by rw [← hwx]; exact BA.out)) ?_
            simp only [Act.put, List.setIfInBounds_toArray, List.set_cons_zero, List.set_cons_succ, List.getElem_toArray, List.getElem_cons_zero, List.getElem_cons_succ]
            rw [hwx] at BA HNW
            clear hwx
            have HAX := Lib.hid (H6.out.on BA.out)
            obtain ⟨ti, i1, i2, i3, i4⟩ := info_parts info_reqZ
            obtain ⟨u', w7, hrun, hown, hgr, _, hloc⟩ := run_append_own_at (P := Try.prog) (w := wx) 0 27 27 33 ti _ 3 32 und_reqsZ i1 i2 i3 i4 rfl (by decide) _ W.length (cellsR W) HAX.out.row ⟨w6.heap.size, 0, none⟩ 1 1 [.int .i64 c, .int .i64 s, .string t] rfl HNW.out (cells3_one c s t) (by have := H12.out; unfold maxLen; omega) (by have := H12.out; omega) (Nat.zero_le _)
            obtain ⟨ua, uc, rfl⟩ := own_slZ hown
            have HLO := Lib.hid (show ∀ b, (Value.slice ua (W.length + 1) uc).ownBlock = some b → (Value.slice wa W.length wc).ownBlock = some b ∨ wx.heap.size ≤ b from fun b hb => by
              rcases hloc with h | h
              · exact Or.inl (h ▸ hb)
              · rw [h] at hb; injection hb with hb; exact Or.inr (by omega))
            have HGR := Lib.hid hgr
            have HOW := Lib.hid (show w7.ownsRow 0 33 3 (.slice ua (W.length + 1) uc) (W ++ [(c, s, t)]).length (cellsR (W ++ [(c, s, t)])) by rw [cellsR_snoc, List.length_append]; exact hown)
            have hyx : y < wx.heap.size := Nat.lt_of_lt_of_le R5.out.lt (Nat.le_trans Y6.out.size BA.out.size)
            have S7 := Lib.hid (show w7.heap[g]? = w5.heap[g]? ∧ w7.heap[y]? = w5.heap[y]? from ⟨(hgr.block g HAX.out.blk.lt (fun e => HAX.out.gw e.symm)).trans (HK6.out wx BA.out).1, (hgr.block y hyx (fun e => by
              have h1 := (HC.out.row.lt y e.symm).2
              have h3 := HY.out
              omega)).trans (HK6.out wx BA.out).2⟩)
            clear hgr hown hloc i1 i2 i3 i4 hyx
            refine pe_value (w' := w7) _ (.slice ua (W.length + 1) uc) rfl rfl (by simp [execOp, resolve, invoke, builtin, Act.eval, hrun, Result.andThen]) S7.out ?_
            clear hrun
            simp only [Act.put, List.setIfInBounds_toArray, List.set_cons_zero, List.set_cons_succ, List.getElem_toArray, List.getElem_cons_zero, List.getElem_cons_succ]
            refine pe_value (w' := w7) _ (.pointer (some ⟨g, 0, none⟩)) rfl rfl (by go_simp) S7.out ?_
            simp only [Act.put, List.setIfInBounds_toArray, List.set_cons_zero, List.set_cons_succ, List.getElem_toArray, List.getElem_cons_zero, List.getElem_cons_succ]
            refine pe_value (w' := w7) _ (.pointer (some ⟨g, 0, none⟩)) rfl rfl (by go_simp) S7.out ?_
            simp only [Act.put, List.setIfInBounds_toArray, List.set_cons_zero, List.set_cons_succ, List.getElem_toArray, List.getElem_cons_zero, List.getElem_cons_succ]
            refine pe_last _ rfl ?_
            simp only [List.getElem_toArray, List.getElem_cons_zero, List.getElem_cons_succ]
            obtain ⟨⟨e0, e1⟩, _⟩ := HSD.out w7 S7.out
            have f0 := (World.frozen?_of_block (w := w5) (a := ⟨g, 0, none⟩) S7.out.1).trans (HC5.out.blk.blk.frz 0)
            go_wp2_with fail
            go_ret
            rw [HRES.out]
            have HP := HAX.out.newrow HOW.out (Keeps.grown HGR.out fun b e k => k e) HLO.out
            have hz : w.heap.size ≤ wx.heap.size := Nat.le_trans B5.out.size (Nat.le_trans Y6.out.size BA.out.size)
            have hbx : Below w.heap.size w wx := B5.out.trans ((Y6.out.trans (BA.out.mono Y6.out.size)).mono B5.out.size)
            refine ⟨rfl, OwnQ g (.slice ua (W.length + 1) uc) mv, ⟨ks, _, mv, HP.1, HMK.out, fun _ => Iff.rfl⟩, ?_, ?_⟩
            · refine (Keeps.of hbx).trans (HP.2.sub fun b hb _ => ⟨fun e => hb ((HO.out b).2 (Or.inr (Or.inl e))), fun e => hb ((HO.out b).2 (Or.inl e))⟩)
            · rintro b (h | h | h)
              · exact Or.inl ((HO.out b).2 (Or.inl h))
              · exact (HLO.out b h).imp (fun h => (HO.out b).2 (Or.inr (Or.inl h))) fun h => Nat.le_trans hz h
              · exact Or.inl ((HO.out b).2 (Or.inr (Or.inr h)))
        · have HRES := Lib.hid (show R = ((W, D), 6) by
            rw [← HADD.out]
            rw [if_neg (fun h => h HG.out), if_neg (by rw [HYD.out]; decide), if_pos HZZ.out])
          go_wp2_with fail
          go_ret
          rw [HRES.out]
          exact ⟨rfl, HKEEP.out _ B5.out⟩
      · have HRES := Lib.hid (show R = ((W, D), 9) by
          rw [← HADD.out]
          rw [if_neg (fun h => h HG.out), if_pos HYD.out])
        go_wp2_with fail
        go_ret
        rw [HRES.out]
        exact ⟨rfl, HKEEP.out _ B4.out⟩
end Go.Proofs.Ytgjdiliaiblfcaa
end
section
open Go Go.RowKit
namespace Go.Proofs.Ytgjdiliaiblfcaa
open ZZ FF JJ CC MM WW BB
def theCode12 : Code12 where
  At := At12
  keep := at12_keep
  lt := at12_lt
  new := new12
  add O w g p r h hi hd hr := add12 O w g p r h hi hd hr
  done O A w g p v l h hi hd hl hv hA := done12 O A w g p v l h hi hd hl hv hA
  take O w g p n v m h hi _ hv hm hn := take12 O w g p n v m h hi hv hm hn
  len O w g p h _ := len12 O w g p h
  has O w g p c q h hi := has12 O w g p c q h hi
  all O w g p h hi := all12 O w g p h hi
end Go.Proofs.Ytgjdiliaiblfcaa
end
section
open Go Go.RowKit
namespace Go.Proofs.Ytgjdiliaiblfcaa
open ZZ FF JJ CC WW BB
theorem lawPpool (l : List OpP) (v : Value) (w : World) (hv : OpsZ w v l) (hm : MemZ l) : Calls Try.prog 3 #[v] w fun e w' => e = .returned (.bool true) ∧ Below w.heap.size w w' := lawP12 theCode12 l v w hv hm
theorem lawTpool (l : List OpP) (v : Value) (n : Int) (m : List Rq) (u : Value) (w : World) (hv : OpsZ w v l) (hm : MemZ l) (hn : -9223372036854775808 ≤ n ∧ n ≤ 9223372036854775807) (hu : ReqsAt w u m) :
    Calls Try.prog 4 #[v, .int .i64 n, u] w fun e w' => e = .returned (.bool true) ∧ Below w.heap.size w w' := lawT12 theCode12 l m v u n w hv hm hu hn
theorem lawDpool (l : List OpP) (v : Value) (more : List OpP) (u : Value) (c q : Int) (s : ByteArray) (w : World) (hv : OpsZ w v l) (hm : MemZ l) (hu : OpsZ w u more) (hn : MemZ more) (hz : s.size ≤ 9223372036854775807) :
    Calls Try.prog 5 #[v, u, .agg #[.int .i64 c, .int .i64 q, .string s]] w fun e w' => e = .returned (.bool true) ∧ Below w.heap.size w w' := lawD12 theCode12 l more v u c q s w hv hm hu hn hz
theorem lawFpool (n m : Nat) (w : World) (hn : n < 256) (hm : m < 256) : Calls Try.prog 6 #[.int .u8 (n : Int), .int .u8 (m : Int)] w fun e w' => e = .returned (.bool true) ∧ Below w.heap.size w w' := lawF12 theCode12 n m w hn hm
end Go.Proofs.Ytgjdiliaiblfcaa
end
