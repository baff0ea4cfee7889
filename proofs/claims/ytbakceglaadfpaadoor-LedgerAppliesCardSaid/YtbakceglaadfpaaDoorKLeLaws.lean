/-
  The laws of layer 13, of the code that landed.
-/
import Derived.Test.YtbakceglaadfpaaDoorKLeAddB
import Derived.Test.YtbakceglaadfpaaDoorKLeLawP
import Derived.Test.YtbakceglaadfpaaDoorKLeLawG
section
open Go Go.RowKit
namespace LE
open FF JJ WW BB
theorem atV_in {E : List Rq} {n : Int} (h : 0 ≤ n ∧ n < (E.length : Int)) : atV E n = .tuple #[ZZ.rqV (E.getD n.toNat r0), .bool true] := by
  unfold atV atR; rw [if_pos h, decide_eq_true h]
theorem atV_out {E : List Rq} {n : Int} (h : ¬ (0 ≤ n ∧ n < (E.length : Int))) : atV E n = .tuple #[.agg #[.int .i64 0, .int .i64 0, .string ⟨#[]⟩], .bool false] := by
  unfold atV atR; rw [if_neg h, decide_eq_false h]; rfl
theorem digV_in {E : List Rq} {n : Int} (h : 0 ≤ n ∧ n ≤ (E.length : Int)) : digV E n = .tuple #[.string (digE (E.take n.toNat)), .int .i64 0] := by unfold digV; rw [if_pos h]
theorem digV_out {E : List Rq} {n : Int} (h : ¬ (0 ≤ n ∧ n ≤ (E.length : Int))) : digV E n = .tuple #[.string ⟨#[]⟩, .int .i64 10] := by unfold digV; rw [if_neg h]
/-- the parts of what Index tells -/
theorem ixV_parts (E : List Rq) (k : Int × Int) : ∃ (m : Int) (B : Bool), ixV E k.1 k.2 = .tuple #[.int .i64 m, .bool B] ∧ (B = true → 0 ≤ ixR E k ∧ m = ixR E k) ∧ (B = false → ixR E k < 0) := by
  unfold ixV
  refine ⟨_, _, rfl, fun h => ?_, fun h => ?_⟩
  · have := of_decide_eq_true h
    exact ⟨this, Int.max_eq_left this⟩
  · have := of_decide_eq_false h
    show ixR E (k.1, k.2) < 0
    omega
theorem appI_snoc : ∀ (b E : List Rq) (r : Rq), appI E (b ++ [r]) = appI E b ++ [(stepL (appE E b) r).2]
  | [], _, _ => rfl
  | a :: b, E, r => by
    show (stepL E a).2 :: appI (stepL E a).1 (b ++ [r]) = ((stepL E a).2 :: appI (stepL E a).1 b) ++ [(stepL (appE (stepL E a).1 b) r).2]
    rw [appI_snoc b]; rfl
theorem app_takeI {b : List Rq} {i : Nat} (h : i < b.length) (E : List Rq) : appE E (b.take (i + 1)) = (stepL (appE E (b.take i)) (b.getD i r0)).1 ∧ appI E (b.take (i + 1)) = appI E (b.take i) ++ [(stepL (appE E (b.take i)) (b.getD i r0)).2] := by
  have e : b.take (i + 1) = b.take i ++ [b.getD i r0] := by
    rw [List.take_add_one, List.getElem?_eq_getElem h, List.getD_eq_getElem?_getD, List.getElem?_eq_getElem h]; rfl
  rw [e, appE_app, appI_snoc]
  exact ⟨rfl, rfl⟩
end LE
namespace Go.Proofs.YtbakceglaadfpaaDoor
open LE ZZ FF JJ CC MM WW BB RR TT Go.Maps
set_option maxRecDepth 100000 in
set_option maxHeartbeats 2000000 in
theorem at13 (O : Nat → Prop) (w : World) (g : Nat) (E : List Rq) (n : Int) (h : At13 O w g E) (hE : E.length ≤ 1000) :
    Calls Tryd.prog 19 #[.pointer (some ⟨g, 0, none⟩), .int .i64 n] w fun e w' => e = .returned (atV E n) ∧ Below w.heap.size w w' := by
  obtain ⟨ev, mv, dv, h1, _⟩ := h
  have HC := Lib.hid h1
  have HL := Lib.hid hE
  obtain ⟨ea, ec, rfl⟩ := row_shapeL h1.rowE
  have B1 := Lib.hid ((Below.refl w.heap.size w).alloc (Nat.le_refl _) (.cells #[.int .i64 0, .int .i64 0, .string ⟨#[]⟩] 34))
  have R1 := Lib.hid (show Blk (w.alloc (.cells #[.int .i64 0, .int .i64 0, .string ⟨#[]⟩] 34)) w.heap.size 3 (rowL [.int .i64 0, .int .i64 0, .string ⟨#[]⟩]) from Blk.new' rfl (RR.row3_ _ _ _))
  clear h1 hE
  go_enter Tryd.func19, Tryd.ntmps19
  go_upto_region 1 with fail
  obtain ⟨y0, hy0⟩ : ∃ y0, w.heap.size = y0 := ⟨_, rfl⟩
  obtain ⟨w1, hw1⟩ : ∃ w1, w.alloc (.cells #[.int .i64 0, .int .i64 0, .string ⟨#[]⟩] 34) = w1 := ⟨_, rfl⟩
  have HY0 := Lib.hid hy0
  rw [hw1] at B1 R1 ⊢
  rw [hy0] at R1 ⊢
  clear hw1 hy0
  have HC1 := Lib.hid (HC.out.on B1.out)
  obtain ⟨c0, _, _⟩ := HC1.out.cells
  obtain ⟨d0, d1, d2⟩ := RR.cells3 R1.out
  have f0 := R1.out.frz 0
  have f1 := R1.out.frz 1
  have f2 := R1.out.frz 2
  by_cases hn : n < 0
  · have hn' : decide (n < 0) = true := decide_eq_true hn
    have HV := Lib.hid (atV_out (E := E) (n := n) (by omega))
    clear hn HC HC1 HL c0
    go_wp2_with fail
    obtain ⟨xi, ui⟩ := rset3 R1.out (.int .i64 0) (.int .i64 0) (.string ⟨#[]⟩)
    generalize ((w1.setCell ⟨y0, 0, none⟩ (.int .i64 0)).setCell ⟨y0, 1, none⟩ (.int .i64 0)).setCell ⟨y0, 2, none⟩ (.string ⟨#[]⟩) = wz at *
    obtain ⟨q0, q1, q2⟩ := RR.cells3 xi
    refine bodyPost_ret (v := .tuple #[.agg #[.int .i64 0, .int .i64 0, .string ⟨#[]⟩], .bool false]) (by simp [results, Tryd.results19, go_sem, q0, q1, q2]) rfl ?_
    exact ⟨by rw [HV.out], B1.out.trans (ui.below (Nat.le_of_eq HY0.out))⟩
  · have hn' : decide (n < 0) = false := decide_eq_false hn
    by_cases hl : (E.length : Int) ≤ n
    · have HV := Lib.hid (atV_out (E := E) (n := n) (by omega))
      have hl' : decide ((E.length : Int) ≤ n) = true := decide_eq_true hl
      clear hl hn HC HC1 HL
      go_wp2_with fail
      obtain ⟨xi, ui⟩ := rset3 R1.out (.int .i64 0) (.int .i64 0) (.string ⟨#[]⟩)
      generalize ((w1.setCell ⟨y0, 0, none⟩ (.int .i64 0)).setCell ⟨y0, 1, none⟩ (.int .i64 0)).setCell ⟨y0, 2, none⟩ (.string ⟨#[]⟩) = wz at *
      obtain ⟨q0, q1, q2⟩ := RR.cells3 xi
      refine bodyPost_ret (v := .tuple #[.agg #[.int .i64 0, .int .i64 0, .string ⟨#[]⟩], .bool false]) (by simp [results, Tryd.results19, go_sem, q0, q1, q2]) rfl ?_
      exact ⟨by rw [HV.out], B1.out.trans (ui.below (Nat.le_of_eq HY0.out))⟩
    · obtain ⟨k, rfl⟩ : ∃ k : Nat, n = (k : Int) := ⟨n.toNat, by omega⟩
      have HV := Lib.hid (atV_in (E := E) (n := (k : Int)) (by omega))
      have hl' : decide ((E.length : Int) ≤ (k : Int)) = false := decide_eq_false hl
      have hkl : k < E.length := by omega
      obtain ⟨b, off, rfl, hbw, hcell⟩ : ∃ b off, ea = some ⟨b, off, none⟩ ∧ b < w1.heap.size ∧ _ := by
        obtain ⟨a1, c1, he, h⟩ := HC1.out.reqs
        injection he with e1 _ e3
        rcases h with h | h
        · rw [h] at hkl; simp at hkl
        · rw [← e1] at h; exact h
      obtain ⟨q0, q1, q2⟩ := JJ.reqs_at (Below.refl _ _) hbw hcell k hkl
      obtain ⟨z, hz⟩ : ∃ z, E.getD k r0 = z := ⟨_, rfl⟩
      rw [hz] at q0 q1 q2
      have HZ := Lib.hid hz
      obtain ⟨zc, zq, zs⟩ := z
      replace q0 : w1.cell? ⟨b, off + k * 3, none⟩ = some (.int .i64 zc) := q0
      replace q1 : w1.cell? ⟨b, off + k * 3 + 1, none⟩ = some (.int .i64 zq) := q1
      replace q2 : w1.cell? ⟨b, off + k * 3 + 2, none⟩ = some (.string zs) := q2
      have k0 : (0 : Int) ≤ (k : Int) := by omega
      have kl : (k : Int) < (E.length : Int) := by omega
      clear hl hn HC HC1 hbw hcell hz hkl
      go_wp2_with fail
      obtain ⟨xi, ui⟩ := rset3 R1.out (.int .i64 zc) (.int .i64 zq) (.string zs)
      generalize ((w1.setCell ⟨y0, 0, none⟩ (.int .i64 zc)).setCell ⟨y0, 1, none⟩ (.int .i64 zq)).setCell ⟨y0, 2, none⟩ (.string zs) = wz at *
      clear q0 q1 q2
      obtain ⟨q0, q1, q2⟩ := RR.cells3 xi
      refine bodyPost_ret (v := .tuple #[.agg #[.int .i64 zc, .int .i64 zq, .string zs], .bool true]) (by simp [results, Tryd.results19, go_sem, q0, q1, q2]) rfl ?_
      exact ⟨by rw [HV.out, show ((k : Int)).toNat = k from rfl, HZ.out]; rfl, B1.out.trans (ui.below (Nat.le_of_eq HY0.out))⟩
set_option maxRecDepth 100000 in
set_option maxHeartbeats 2000000 in
theorem digest13 (O : Nat → Prop) (w : World) (g : Nat) (E : List Rq) (n : Int) (h : At13 O w g E) (hE : E.length ≤ 1000) :
    Calls Tryd.prog 18 #[.pointer (some ⟨g, 0, none⟩), .int .i64 n] w fun e w' => e = .returned (digV E n) ∧ Below w.heap.size w w' := by
  obtain ⟨ev, mv, dv, h1, _⟩ := h
  have HC := Lib.hid h1
  have HL := Lib.hid hE
  obtain ⟨ea, ec, rfl⟩ := row_shapeL h1.rowE
  have HDL := Lib.hid (digsL_len E)
  clear h1 hE
  go_enter Tryd.func18, Tryd.ntmps18
  go_wp2_with fail
  refine (begun13 HC.out (by rw [HDL.out]; omega) (by have := HL.out; rw [HDL.out]; omega)).mono ?_
  rintro e w1 ⟨rfl, hb1⟩
  have B1 := Lib.hid hb1
  have HC1 := Lib.hid (HC.out.on hb1)
  obtain ⟨c0, _, c2⟩ := HC1.out.cells
  clear hb1
  by_cases hn : n < 0
  · have hn' : decide (n < 0) = true := decide_eq_true hn
    have HV := Lib.hid (digV_out (E := E) (n := n) (by omega))
    clear hn HC HC1 c0 c2
    go_wp2_with fail
    go_ret2
    exact ⟨by rw [HV.out]; rfl, B1.out⟩
  · have hn' : decide (n < 0) = false := decide_eq_false hn
    by_cases hl : (E.length : Int) < n
    · have HV := Lib.hid (digV_out (E := E) (n := n) (by omega))
      have hl' : decide ((E.length : Int) < n) = true := decide_eq_true hl
      clear hl hn HC HC1 c2
      go_wp2_with fail
      go_ret2
      exact ⟨by rw [HV.out]; rfl, B1.out⟩
    · obtain ⟨k, rfl⟩ : ∃ k : Nat, n = (k : Int) := ⟨n.toNat, by omega⟩
      have HV := Lib.hid (digV_in (E := E) (n := (k : Int)) (by omega))
      have hl' : decide (E.length < k) = false := decide_eq_false (by omega)
      have hkl : k ≤ E.length := by omega
      obtain ⟨dq, dc, rfl, hdq, hdc⟩ := dig_atL HC1.out.rowD k (by rw [HDL.out]; omega)
      rw [digsL_at E k hkl] at hdc
      obtain ⟨d, hd⟩ : ∃ d, digE (E.take k) = d := ⟨_, rfl⟩
      have HD := Lib.hid hd
      rw [hd] at hdc
      have k0 : (0 : Int) ≤ (k : Int) := by omega
      have kl : (k : Int) < ((digsL E).length : Int) := by rw [HDL.out]; omega
      have ds : (digsL E).length ≤ 2000 := by have := HL.out; rw [HDL.out]; omega
      generalize (digsL E).length = dl at *
      clear hl hn HC HC1 hd hkl hdq
      go_wp2_with fail
      go_ret2
      exact ⟨by rw [HV.out, show ((k : Int)).toNat = k from rfl, HD.out]; rfl, B1.out⟩
set_option maxRecDepth 100000 in
set_option maxHeartbeats 4000000 in
theorem apply13 {w : World} {g : Nat} {E : List Rq} {O : Nat → Prop} (h : At13 O w g E) (c q : Int) (t : ByteArray) (h64 : In64 (c, q)) (hE : E.length ≤ 1500) (ht : t.size ≤ 100000) (hT : Tabs w) (hN : ∀ b, O b → NoTab b) :
    Calls Tryd.prog 22 #[.pointer (some ⟨g, 0, none⟩), .agg #[.int .i64 c, .int .i64 q, .string t]] w fun e w' => e = .returned (.int .i64 (stepL E (c, q, t)).2) ∧
      ∃ O', At13 O' w' g (stepL E (c, q, t)).1 ∧ Keeps (fun b => ¬ O b) w w' ∧ ∀ b, O' b → O b ∨ w.heap.size ≤ b := by
  have HA := Lib.hid h
  have H64 := Lib.hid h64
  have HE := Lib.hid hE
  have HTS := Lib.hid ht
  have HT := Lib.hid hT
  have HN := Lib.hid hN
  have b1 := Lib.hid ((Below.refl w.heap.size w).alloc (Nat.le_refl _) (.cells #[.int .i64 c, .int .i64 q, .string t] 34))
  have L0 := Lib.hid (show Blk (w.alloc (.cells #[.int .i64 c, .int .i64 q, .string t] 34)) w.heap.size 3 (rowL [.int .i64 c, .int .i64 q, .string t]) from Blk.new' rfl (RR.row3_ _ _ _))
  clear h h64 hE ht hT hN
  go_enter Tryd.func22, Tryd.ntmps22
  go_upto_region 1 with fail
  obtain ⟨y0, hy0⟩ : ∃ y0, w.heap.size = y0 := ⟨_, rfl⟩
  have HY0 := Lib.hid hy0
  obtain ⟨w1, hw1⟩ : ∃ w1, w.alloc (.cells #[.int .i64 c, .int .i64 q, .string t] 34) = w1 := ⟨_, rfl⟩
  rw [hw1] at b1 L0 ⊢
  rw [hy0] at L0 ⊢
  clear hw1 hy0
  have HA1 := Lib.hid (at13_keep HA.out (Keeps.of b1.out))
  obtain ⟨d0, d1, d2⟩ := RR.cells3 L0.out
  go_wp2_with fail
  refine (index13 O w1 g E c q HA1.out H64.out).mono ?_
  rintro e w2 ⟨rfl, hb2⟩
  have B2 := Lib.hid (b1.out.trans (hb2.mono b1.out.size))
  have L2 := Lib.hid (L0.out.below hb2 L0.out.lt)
  have HA2 := Lib.hid (at13_keep HA1.out (Keeps.of hb2))
  obtain ⟨m, B, hix, hB1, hB2⟩ := ixV_parts E (c, q)
  have HB1 := Lib.hid hB1
  have HB2 := Lib.hid hB2
  rw [hix]
  clear hb2 hix hB1 hB2 d0 d1 d2
  cases B with
  | true =>
    have HS := Lib.hid (show stepL E (c, q, t) = (E, m) by unfold stepL; obtain ⟨k1, k2⟩ := HB1.out rfl; rw [if_pos (show 0 ≤ ixR E (keyR (c, q, t)) from k1), k2]; rfl)
    go_wp2_with fail
    go_ret
    rw [HS.out]
    exact ⟨rfl, O, HA2.out, Keeps.of B2.out, fun b h => .inl h⟩
  | false =>
    have HNI := Lib.hid (HB2.out rfl)
    have HS := Lib.hid (show stepL E (c, q, t) = (E ++ [(c, q, t)], (E.length : Int)) by unfold stepL; rw [if_neg (show ¬ 0 ≤ ixR E (keyR (c, q, t)) by have := HNI.out; show ¬ 0 ≤ ixR E (c, q); omega)])
    obtain ⟨ev, mv, dv, hm, hO⟩ := HA2.out
    have HM := Lib.hid hm
    have HO := Lib.hid hO
    obtain ⟨d0, d1, d2⟩ := RR.cells3 L2.out
    clear hm hO
    go_wp2_with fail
    clear d0 d1 d2
    refine (add13 HM.out c q t H64.out HNI.out HE.out HTS.out (tabs_on HT.out B2.out) (fun b hb => HN.out b ((HO.out b).2 hb))).mono ?_
    rintro e w3 ⟨rfl, ev', mv', dv', h3, hk3, ho3⟩
    have H3 := Lib.hid h3
    have HK3 := Lib.hid hk3
    have HO3 := Lib.hid ho3
    obtain ⟨c0, _, _⟩ := h3.cells
    obtain ⟨ea, ec, rfl⟩ := row_shapeL h3.rowE
    obtain ⟨l, hl⟩ : ∃ l, (E ++ [(c, q, t)]).length = l := ⟨_, rfl⟩
    have HLL := Lib.hid (show l = E.length + 1 by rw [← hl]; simp)
    rw [hl] at c0
    have hw : IntKind.i64.wrap ((l : Int) - 1) = (E.length : Int) := by have := HE.out; rw [HLL.out, IntKind.wrap_i64]; push_cast; omega
    clear h3 hk3 ho3 hl
    go_wp2_with fail
    go_ret
    rw [HS.out]
    refine ⟨rfl, OwnL g (.slice ea (E ++ [(c, q, t)]).length ec) mv' dv', ⟨_, _, _, by have := H3.out; rw [show (E ++ [(c, q, t)]).length = E.length + 1 by simp] at this ⊢; exact this, fun _ => Iff.rfl⟩, (Keeps.of B2.out).trans (HK3.out.sub fun b hb _ h => hb ((HO.out b).2 h)), fun b hb => ?_⟩
    exact (HO3.out b hb).imp (fun h => (HO.out b).2 h) (Nat.le_trans B2.out.size)
/-- the loop's state: i of the batch are applied -/
structure ApS (w : World) (g : Nat) (O : Nat → Prop) (E b : List Rq) (i : Nat) (x : Value) (wr : World) (O' : Nat → Prop) : Prop where
  at_ : At13 O' wr g (appE E (b.take i))
  keeps : Keeps (fun c => ¬ O c) w wr
  loc : ∀ c, O' c → O c ∨ w.heap.size ≤ c
  row : wr.ownsRow w.heap.size 3 1 x (appI E (b.take i)).length ((appI E (b.take i)).map (Value.int .i64))
  apart : ∀ c, x.ownBlock = some c → ¬ O' c
set_option maxRecDepth 100000 in
set_option maxHeartbeats 8000000 in
theorem applies13 (O A : Nat → Prop) (w : World) (g : Nat) (E : List Rq) (v : Value) (b : List Rq) (h : At13 O w g E) (hT : Tabs w) (hN : ∀ b, O b → NoTab b) (hv : Dep A w (fun w' => ReqsAt w' v b)) (hA : ∀ b, A b → ¬ O b) (hE : E.length ≤ 1000) (hb : b.length ≤ 100) (hs : SmallL b) :
    Calls Tryd.prog 12 #[.pointer (some ⟨g, 0, none⟩), v] w fun e w' => ∃ u O' R, e = .returned u ∧ At13 O' w' g (appE E b) ∧ Keeps (fun b => ¬ O b) w w' ∧ (∀ b, O' b → O b ∨ w.heap.size ≤ b) ∧ Dep R w' (fun w'' => IntsAt w'' u (appI E b)) ∧ (∀ b, R b → w.heap.size ≤ b ∧ ¬ O' b) := by
  have HA := Lib.hid h
  have HT := Lib.hid hT
  have HN := Lib.hid (fun b (hb : w.heap.size ≤ b) => lg_notab hT b hb)
  have HNO := Lib.hid hN
  have HV := Lib.hid hv
  have HAO := Lib.hid hA
  have HE := Lib.hid hE
  have HB := Lib.hid hb
  have HS := Lib.hid hs
  obtain ⟨a0, cap, hvs, _⟩ := hv.now
  subst hvs
  clear h hT hN hv hA hE hb hs
  go_enter Tryd.func12, Tryd.ntmps12
  go_wp2_with fail
  go_loopw [5, 10] (fun x y wr => ∃ i : Nat, i ≤ b.length ∧ y = .int .i64 (i : Int) ∧ ∃ O', ApS w g O E b i x wr O') (fun _ y _ => b.length - (RowKit.intOf y).toNat)
  case atStart => exact ⟨0, Nat.zero_le _, rfl, O, HA.out, Keeps.refl _ _, fun c h => .inl h, World.ownsRow_nil _ _ _ _, fun c h => by cases h⟩
  case round =>
    obtain ⟨i, hi, rfl, O', hst⟩ := hrel
    have HST := Lib.hid hst
    have HI := Lib.hid hi
    have i0 : (0 : Int) ≤ (i : Int) := by omega
    have ib : (i : Int) ≤ 100 := by have := HB.out; omega
    obtain ⟨xa, xc, rfl⟩ := row_shapeL hst.row
    clear hst hi
    by_cases hlt : i < b.length
    · have hlt' : (i : Int) < (b.length : Int) := by omega
      have HLT := Lib.hid hlt
      have HSN := Lib.hid (app_takeI hlt E)
      have hrq := HV.out.on (HST.out.keeps.sub fun c hc _ => HAO.out c hc)
      obtain ⟨bq, boff, rfl, hbw, hcell⟩ : ∃ b off, a0 = some ⟨b, off, none⟩ ∧ b < wr.heap.size ∧ _ := by
        obtain ⟨a1, c1, he, h⟩ := hrq.now
        injection he with e1 _ e3
        rcases h with h | h
        · rw [h] at hlt; simp at hlt
        · rw [← e1] at h; exact h
      obtain ⟨q0, q1, q2⟩ := JJ.reqs_at (Below.refl _ _) hbw hcell i hlt
      have HSM := Lib.hid (HS.out _ (getD_mem' b r0 i hlt))
      obtain ⟨z, hz⟩ : ∃ z, b.getD i r0 = z := ⟨_, rfl⟩
      rw [hz] at q0 q1 q2 HSM HSN
      obtain ⟨zc, zq, zs⟩ := z
      replace q0 : wr.cell? ⟨bq, boff + i * 3, none⟩ = some (.int .i64 zc) := q0
      replace q1 : wr.cell? ⟨bq, boff + i * 3 + 1, none⟩ = some (.int .i64 zq) := q1
      replace q2 : wr.cell? ⟨bq, boff + i * 3 + 2, none⟩ = some (.string zs) := q2
      have B1 := Lib.hid ((Below.refl wr.heap.size wr).alloc (Nat.le_refl _) (.cells #[.int .i64 zc, .int .i64 zq, .string zs] 34))
      have L1 := Lib.hid (show Blk (wr.alloc (.cells #[.int .i64 zc, .int .i64 zq, .string zs] 34)) wr.heap.size 3 (rowL [.int .i64 zc, .int .i64 zq, .string zs]) from Blk.new' rfl (RR.row3_ _ _ _))
      clear hlt hrq hbw hcell hz
      go_upto_region 5 with fail
      obtain ⟨y0, hy0⟩ : ∃ y0, wr.heap.size = y0 := ⟨_, rfl⟩
      obtain ⟨w1, hw1⟩ : ∃ w1, wr.alloc (.cells #[.int .i64 zc, .int .i64 zq, .string zs] 34) = w1 := ⟨_, rfl⟩
      rw [hw1] at B1 L1 ⊢
      rw [hy0] at L1 ⊢
      clear hw1 hy0 q0 q1 q2
      obtain ⟨d0, d1, d2⟩ := RR.cells3 L1.out
      go_wp2_with fail
      clear d0 d1 d2
      have KW := Lib.hid (HST.out.keeps.trans (Keeps.of B1.out))
      have HT1 := Lib.hid (show Tabs w1 from tabs_keeps HT.out KW.out fun c => Classical.byCases (fun h : O c => .inl (HNO.out c h)) .inr)
      refine (apply13 (O := O') (at13_keep HST.out.at_ (Keeps.of B1.out)) zc zq zs HSM.out.2 (by
        obtain ⟨m, h1, h2⟩ := app_ext (b.take i) E
        have := HE.out; have := HB.out
        rw [h1, List.length_append]; rw [List.length_take] at h2; omega) HSM.out.1 HT1.out (fun c hc => (HST.out.loc c hc).elim (HNO.out c) (HN.out c))).mono ?_
      rintro e w2 ⟨rfl, O2, h2, hk2, ho2⟩
      have H2 := Lib.hid h2
      have HK2 := Lib.hid hk2
      have HO2 := Lib.hid ho2
      obtain ⟨M, hM⟩ : ∃ M, (stepL (appE E (b.take i)) (zc, zq, zs)).2 = M := ⟨_, rfl⟩
      have HM := Lib.hid hM
      rw [hM]
      have ZW := Lib.hid (show w.heap.size ≤ wr.heap.size ∧ wr.heap.size ≤ w1.heap.size ∧ w1.heap.size ≤ w2.heap.size from ⟨HST.out.keeps.b0.size, B1.out.size, hk2.b0.size⟩)
      have R2 := Lib.hid (row_keep (row_keep HST.out.row fun c hc => B1.out.block c (HST.out.row.lt c hc).2) fun c hc => hk2.block c (HST.out.apart c hc) (Nat.lt_of_lt_of_le (HST.out.row.lt c hc).2 B1.out.size))
      clear h2 hk2 ho2 hM
      have A3 := Lib.hid ((Below.refl w2.heap.size w2).alloc (Nat.le_refl _) (.cells #[.int .i64 M] 3))
      have R3 := Lib.hid (row_keep R2.out fun c hc => A3.out.block c (R2.out.lt c hc).2)
      have HLI := Lib.hid (show (appI E (b.take i)).length ≤ 100 by rw [appI_len, List.length_take]; have := HB.out; omega)
      obtain ⟨ti, i1, i2, i3, i4⟩ := info_parts info_int
      obtain ⟨u', w4, hrun, hown, hgr, _, hloc⟩ := run_append_own_at (P := Tryd.prog) (w := w2.alloc (.cells #[.int .i64 M] 3)) w.heap.size 30 30 3 ti _ 1 8 (by kernel_rfl) i1 i2 i3 i4 rfl (by decide) _ (appI E (b.take i)).length ((appI E (b.take i)).map (Value.int .i64)) R3.out ⟨w2.heap.size, 0, none⟩ 1 1 [.int .i64 M] rfl (cells1_newL _ _ _) (by intro u hu; rw [List.mem_singleton.1 hu]; rfl) (by have := HLI.out; unfold maxLen; omega) (by have := HLI.out; omega) (by have := ZW.out; have := A3.out.size; omega)
      obtain ⟨ua, uc, rfl⟩ := row_shapeL hown
      have HOW := Lib.hid (show w4.ownsRow w.heap.size 3 1 (.slice ua ((appI E (b.take i)).length + 1) uc) (appI E (b.take (i + 1))).length ((appI E (b.take (i + 1))).map (Value.int .i64)) by
        rw [HSN.out.2, HM.out, List.map_append, List.length_append]; exact hown)
      have HGR := Lib.hid hgr
      have HLO := Lib.hid (show ∀ c, (Value.slice ua ((appI E (b.take i)).length + 1) uc).ownBlock = some c → (Value.slice xa (appI E (b.take i)).length xc).ownBlock = some c ∨ w2.heap.size ≤ c from fun c hc => by
        rcases hloc with h | h
        · exact Or.inl (h ▸ hc)
        · rw [h] at hc; injection hc with hc; have := A3.out.size; exact Or.inr (by omega))
      have HAP := Lib.hid (show ∀ c, (Value.slice xa (appI E (b.take i)).length xc).ownBlock = some c → ¬ O2 c from fun c hc ho => by
        rcases HO2.out c ho with h | h
        · exact HST.out.apart c hc h
        · have := (HST.out.row.lt c hc).2; have := ZW.out; omega)
      have KG := Lib.hid (show Keeps (fun c => (Value.slice xa (appI E (b.take i)).length xc).ownBlock ≠ some c) w2 w4 from (Keeps.of A3.out).trans (Keeps.grown hgr fun b e c => c e))
      have HSL := Lib.hid (show (appI E (b.take (i + 1))).length = (appI E (b.take i)).length + 1 by rw [HSN.out.2, List.length_append]; rfl)
      clear hown hgr hloc i1 i2 i3 i4
      go_wp2_with (at_builtin; refine wpl_append_runM rfl _ _ _ rfl hrun ?_)
      clear hrun
      go_roundw
      case rel =>
        refine ⟨i + 1, by have := HLT.out; omega, by go_num, O2, ?_, ?_, ?_, HOW.out, ?_⟩
        · rw [HSN.out.1]
          exact at13_keep H2.out (KG.out.sub fun c hc _ e => HAP.out c e hc)
        · refine ⟨KW.out.b0.trans (HK2.out.b0.trans KG.out.b0), fun c hc hl => ?_⟩
          have l1 := Nat.lt_of_lt_of_le hl KW.out.b0.size
          have l2 := Nat.lt_of_lt_of_le l1 HK2.out.b0.size
          exact (KG.out.block c (fun e => by have := (HST.out.row.lt c e).1; omega) l2).trans ((HK2.out.block c (fun ho => (HST.out.loc c ho).elim hc (fun h => by omega)) l1).trans (KW.out.block c hc hl))
        · intro c hc
          rcases HO2.out c hc with h | h
          · exact HST.out.loc c h
          · exact .inr (by have := ZW.out; omega)
        · intro c hc ho
          rcases HLO.out c hc with h | h
          · exact HAP.out c h ho
          · exact absurd (at13_lt H2.out c ho) (by omega)
      case measure => have := HLT.out; simp [RowKit.intOf]; omega
    · obtain rfl : i = b.length := by have := HI.out; omega
      have hlt' : ¬ (b.length : Int) < (b.length : Int) := by omega
      have HZ := Lib.hid (show At13 O' wr g (appE E b) ∧ wr.ownsRow w.heap.size 3 1 (.slice xa (appI E (b.take b.length)).length xc) (appI E b).length ((appI E b).map (Value.int .i64)) by
        have h1 := HST.out.at_
        have h2 := HST.out.row
        rw [List.take_length] at h1 h2 ⊢
        exact ⟨h1, h2⟩)
      clear hlt
      go_wp2_with fail
      go_ret
      have HR := Lib.hid HST.out.row
      rw [List.take_length] at HR
      refine ⟨_, rfl, O', HZ.out.1, HST.out.keeps, HST.out.loc, fun c => (Value.slice xa (appI E b).length xc).ownBlock = some c, fun w2 hk => ?_, fun c hc => ⟨(HR.out.lt c hc).1, ?_⟩⟩
      · exact ints_own (row_keep HR.out fun c hc => hk.block c hc (HR.out.lt c hc).2)
      · have h := HST.out.apart c
        rw [List.take_length] at h
        exact h hc
/-- what the code's calls on a ledger answer -/
def theCode13 : Code13 where
  At := At13
  keep := at13_keep
  lt := at13_lt
  new := new13
  apply := fun O A w g E v b h hT hN hv hA hE hb _ hs => applies13 O A w g E v b h hT hN hv hA hE hb hs
  index := fun O w g E c q h _ h64 => index13 O w g E c q h h64
  at_ := fun O w g E n h hE => at13 O w g E n h hE
  len := fun O w g E h _ => len13 O w g E h
  digest := fun O w g E n h _ hE _ => digest13 O w g E n h hE
  entries := fun O w g E h hE => entries13 O w g E h hE
end Go.Proofs.YtbakceglaadfpaaDoor
end
section
open Go Go.RowKit
namespace Go.Proofs.YtbakceglaadfpaaDoor
open LE FF JJ CC WW BB
theorem lawAled (L : List Bt) (v : Value) (c q : Int) (w : World) (hv : BatsAt w v L) (hm : MemBt L) (hc : -9223372036854775808 ≤ c ∧ c ≤ 9223372036854775807) (hq : -9223372036854775808 ≤ q ∧ q ≤ 9223372036854775807) (hT : Tabs w) :
    Calls Tryd.prog 3 #[v, .int .i64 c, .int .i64 q] w fun e w' => e = .returned (.bool true) ∧ Below w.heap.size w w' := lawA13 theCode13 L v c q w hT hv hm ⟨hc, hq⟩
theorem lawDled (L : List Bt) (v : Value) (n : Int) (w : World) (hv : BatsAt w v L) (hm : MemBt L) (hn : -9223372036854775808 ≤ n ∧ n ≤ 9223372036854775807) (hT : Tabs w) :
    Calls Tryd.prog 4 #[v, .int .i64 n] w fun e w' => e = .returned (.bool true) ∧ Below w.heap.size w w' := lawD13 theCode13 L v n w hT hv hm hn
theorem lawGled (L : List Bt) (v : Value) (M : List Bt) (v2 : Value) (w : World) (hv : BatsAt w v L) (hm : MemBt L) (hv2 : BatsAt w v2 M) (hm2 : MemBt M) (hT : Tabs w) :
    Calls Tryd.prog 5 #[v, v2] w fun e w' => e = .returned (.bool true) ∧ Below w.heap.size w w' := lawG13 theCode13 L M v v2 w hT hv hm hv2 hm2
theorem lawPled (l : List Rq) (v : Value) (w : World) (hv : ReqsAt w v l) (hm : MemRq l) (hc : ∀ a n c, v = .slice a n c → n ≤ c) (hT : Tabs w) :
    Calls Tryd.prog 6 #[v] w fun e w' => e = .returned (.bool true) ∧ Below w.heap.size w w' := lawP13 theCode13 l v w hT hv hm hc
end Go.Proofs.YtbakceglaadfpaaDoor
end
