/-
  The laws of layer 17, of the code that landed.
-/
import Derived.Test.YtphlpgdbngbplaaKWOpenM
import Derived.Test.YtphlpgdbngbplaaKEOpen
import Derived.Test.YtphlpgdbngbplaaKQuPop
import Derived.Test.YtphlpgdbngbplaaKQuTake
import Derived.Test.YtphlpgdbngbplaaKQuMem
import Derived.Test.YtphlpgdbngbplaaKQuFill
section
open Go Go.RowKit
namespace QU
theorem wf_i64q {n : Int} (h : (Lit.int .i64 n).wf = true) : -9223372036854775808 ≤ n ∧ n ≤ 9223372036854775807 := by
  simp [Lit.wf, IntKind.min, IntKind.max, IntKind.signed, IntKind.bits] at h
  omega
theorem wf_u8q {n : Int} (h : (Lit.int .u8 n).wf = true) : 0 ≤ n ∧ n < 256 := by
  simp [Lit.wf, IntKind.min, IntKind.max, IntKind.signed, IntKind.bits] at h
  omega
end QU
namespace Go.Proofs.Ytphlpgdbngbplaa
open QU FF CC WW BB Go.WideShapes Go.ChangeShapes Go.Deep
section
variable {H : Type} {enc : TypeId × Value → H} {W : World} {v : Value} {d : DataW H} {p : List MemPlace}
theorem cells_op17 : Try.prog.cellsOf 44 = 23 := by kernel_rfl
set_option maxRecDepth 100000 in
theorem open_op17 {fuel : Nat} {cs : List Value} {x : DataW H × List MemPlace} (h : TrodW enc W fuel 44 cs x) : ∃ o : Op17, cs = encOp o ∧ MgAt W o.f o.m ∧ o.kind < 256 ∧ MemM o.m.x o.m.c o.m.s ∧ -9223372036854775808 ≤ o.i ∧ o.i ≤ 9223372036854775807 := by
  obtain ⟨y0, y1, y2, n, _, hl, h0, h1, h2⟩ := trod_struct3 Try.underlying44 h
  rw [cells_op17] at hl
  match cs, hl with
  | [u0, u1, u2, u3, u4, u5, u6, u7, u8, u9, u10, u11, u12, u13, u14, u15, u16, u17, u18, u19, u20, u21, u22], _ =>
    obtain ⟨a, ea, _, wa⟩ := DataW.trod_int Try.underlying5 h0
    obtain ⟨f, k, fr, dst, v', hh, xx, c, s, r, ix, tg, s9, r10, s13, t15, hc, hM, hmm⟩ := open_msg (cs := [u1, u2, u3, u4, u5, u6, u7, u8, u9, u10, u11, u12, u13, u14, u15, u16, u17, u18, u19, u20, u21]) h1
    obtain ⟨b, eb, _, wb⟩ := DataW.trod_int Try.underlying3 h2
    have ea : [u0] = [.int .u8 a] := ea
    have eb : [u22] = [.int .i64 b] := eb
    simp only [List.cons.injEq, and_true] at ea eb
    have hw := wf_u8q wa
    obtain ⟨m, rfl⟩ := Int.eq_ofNat_of_zero_le hw.1
    refine ⟨⟨m, f, ⟨k, fr, dst, v', hh, xx, c, s, r, ix, tg, s9, r10, s13, t15⟩, b⟩, ?_, hM, by show m < 256; omega, hmm, wf_i64q wb⟩
    show u0 :: ([u1, u2, u3, u4, u5, u6, u7, u8, u9, u10, u11, u12, u13, u14, u15, u16, u17, u18, u19, u20, u21] ++ [u22]) = _
    rw [hc, ea, eb]; rfl
set_option maxRecDepth 100000 in
theorem openv_ops17 (hval : Value.okWide Try.prog W .any 0 22 v) (h : DataW.Trod enc Try.prog W 0 (fun _ => true) true 22 v d p) : ∃ l : List Op17, OpsM W v l ∧ MemOps l := by
  obtain ⟨s0, len, scap, rfl⟩ := okWide_slice Try.underlying22 hval
  obtain ⟨fuel, hf⟩ := h
  obtain ⟨a0, cap, l, hc, hm, hl⟩ := open_each (α := Op17) 23 op170 (fun cs' o => cs' = encOp o ∧ MgAt W o.f o.m ∧ o.kind < 256 ∧ MemM o.m.x o.m.c o.m.s ∧ -9223372036854775808 ≤ o.i ∧ o.i ≤ 9223372036854775807) Try.underlying22 cells_op17 (by omega) hf (fun n cs' y hy => open_op17 hy)
  have hc : [Value.slice s0 len scap] = [.slice a0 l.length cap] := hc
  simp only [List.cons.injEq, and_true] at hc
  rw [hc]
  have hin : ∀ o ∈ l, MgAt W o.f o.m ∧ o.kind < 256 ∧ MemM o.m.x o.m.c o.m.s ∧ -9223372036854775808 ≤ o.i ∧ o.i ≤ 9223372036854775807 := fun o ho => by
    rcases hl with hl | ⟨b, off, hb, hlt, hx⟩
    · subst hl; cases ho
    · obtain ⟨i, hi, rfl⟩ := List.getElem_of_mem ho
      obtain ⟨cs', h1, ⟨_, h2⟩, h4⟩ := hx i hi
      rw [List.getD_eq_getElem?_getD, List.getElem?_eq_getElem hi] at h2
      exact h2
  refine ⟨l, ⟨⟨a0, cap, rfl, ?_⟩, fun o ho => (hin o ho).1⟩, hm, fun o ho => (hin o ho).2⟩
  rcases hl with hl | ⟨b, off, hb, hlt, hx⟩
  · exact Or.inl hl
  · refine Or.inr ⟨b, off, hb, trivial, hlt, fun i hi j u hu => ?_⟩
    obtain ⟨cs', h1, ⟨rfl, _⟩, h4⟩ := hx i hi
    have hj : j < 23 := by rw [← h1]; exact (List.getElem?_eq_some_iff.1 hu).1
    rw [h4 j hj]; exact hu
end
end Go.Proofs.Ytphlpgdbngbplaa
end
section
open Go Go.RowKit
namespace QU
open RR FF WW BB
theorem opt_back {α : Type} {nz : α → Bool} {x z : α} (h : nz x = false → x = z) : (opt nz x).getD z = x := by
  cases hx : nz x with
  | true => rw [opt_yes hx]; rfl
  | false => rw [opt_no hx, h hx]; rfl
theorem push_dropped (q : Qu) (b : ByteArray) : (pushQ q b).1.dropped ≤ q.dropped + 1 := by
  unfold pushQ
  split
  · show q.dropped ≤ q.dropped + 1; omega
  · split <;> split <;> (dsimp only; omega)
/-- a call's cells -/
def op23 (o : Op17) : Nat → Value := fun j => if j = 0 then .int .u8 (o.kind : Int) else if j = 22 then .int .i64 o.i else o.f (j - 1)
end QU
namespace Go.Proofs.Ytphlpgdbngbplaa
open QU RR FF WW BB
theorem zB_eq {x : BlockD} (h : nzB x = false) : x = noB := by
  obtain ⟨⟨⟨a, b⟩, ⟨⟨c, k⟩, l⟩⟩, m⟩ := x
  simp only [nzB, Bool.not_eq_false', Bool.and_eq_true, decide_eq_true_eq] at h
  obtain ⟨rfl, rfl, rfl, h1, h2, h3⟩ := h
  rw [nil_size k h1, List.eq_nil_of_length_eq_zero h2, List.eq_nil_of_length_eq_zero h3]; rfl
theorem zC_eq {c : CertD} (h : nzC c = false) : c = noC := by
  obtain ⟨⟨c, k⟩, l⟩ := c
  simp only [nzC, Bool.not_eq_false', Bool.and_eq_true, decide_eq_true_eq] at h
  obtain ⟨rfl, h1, h2⟩ := h
  rw [nil_size k h1, List.eq_nil_of_length_eq_zero h2]; rfl
theorem zS_eq {s : Int × List ByteArray} (h : nzS s = false) : s = noS := by
  obtain ⟨c, l⟩ := s
  simp only [nzS, Bool.not_eq_false', Bool.and_eq_true, decide_eq_true_eq] at h
  obtain ⟨rfl, h2⟩ := h
  rw [List.eq_nil_of_length_eq_zero h2]; rfl
theorem zR_eq {r : Int × Int × ByteArray} (h : nzR r = false) : r = noR := by
  obtain ⟨a, b, k⟩ := r
  simp only [nzR, Bool.not_eq_false', Bool.and_eq_true, decide_eq_true_eq] at h
  obtain ⟨rfl, rfl, h1⟩ := h
  rw [nil_size k h1]; rfl
theorem agg_op17 (w : World) : (isAgg 44).run Try.prog w = .ok true w := by kernel_rfl
theorem size_op17 (w : World) : (Go.sizeOf 44).run Try.prog w = .ok 23 w := by kernel_rfl
theorem mg_one {w : World} {f : Nat → Value} {m : Mg} (h : MgAt w f m) : ∀ i, i < 21 → (f i).oneCell' = true := by
  obtain ⟨⟨a9, c9, e9, _⟩, _⟩ := And.intro h.h9 trivial
  obtain ⟨⟨a10, c10, e10, _⟩, _⟩ := And.intro h.h10 trivial
  obtain ⟨⟨a13, c13, e13, _⟩, _⟩ := And.intro h.h13 trivial
  obtain ⟨⟨a15, c15, e15, _⟩, _⟩ := And.intro h.h15 trivial
  intro i hi
  match i, hi with
  | 0, _ => rw [h.y0]; rfl
  | 1, _ => rw [h.y1]; rfl
  | 2, _ => rw [h.y2]; rfl
  | 3, _ => rw [h.y3]; rfl
  | 4, _ => rw [h.y4]; rfl
  | 5, _ => rw [h.y5]; rfl
  | 6, _ => rw [h.y6]; rfl
  | 7, _ => rw [h.y7]; rfl
  | 8, _ => rw [h.y8]; rfl
  | 9, _ => rw [h.y9, e9]; rfl
  | 10, _ => rw [h.y10, e10]; rfl
  | 11, _ => rw [h.y11]; rfl
  | 12, _ => rw [h.y12]; rfl
  | 13, _ => rw [h.y13, e13]; rfl
  | 14, _ => rw [h.y14]; rfl
  | 15, _ => rw [h.y15, e15]; rfl
  | 16, _ => rw [h.y16]; rfl
  | 17, _ => rw [h.y17]; rfl
  | 18, _ => rw [h.y18]; rfl
  | 19, _ => rw [h.y19]; rfl
  | 20, _ => rw [h.y20]; rfl
  | _ + 21, h2 => exact absurd h2 (by omega)
theorem mg_of {w : World} {f : Nat → Value} {m : Mg} (h : MgAt w f m) (hr : m.right = true) : MsgOf w f m.B ∧ ∃ d, msgRd m.B = some d := by
  have H := rightMsg_iff.1 hr
  have hd := rd_of H
  refine ⟨⟨mg_one h, _, m.s9, m.r10, m.s13, m.t15, hd, ?_⟩, _, hd⟩
  show MsgAt w f m.k m.fr m.node m.v m.h ((opt nzB m.x).getD noB) ((opt nzC m.c).getD noC) ((opt nzS m.s).getD noS) ((opt nzR m.r).getD noR) m.ix m.tg m.s9 m.r10 m.s13 m.t15
  rw [opt_back zB_eq, opt_back zC_eq, opt_back zS_eq, opt_back zR_eq]
  exact h
theorem op23_one {w : World} {o : Op17} (h : MgAt w o.f o.m) : ∀ j, j < 23 → (op23 o j).oneCell' = true := by
  intro j hj
  unfold op23
  split
  · rfl
  · split
    · rfl
    · exact mg_one h (j - 1) (by omega)
theorem op23_msg (o : Op17) (j : Nat) (hj : j < 21) : op23 o (1 + j) = o.f j := by
  unfold op23
  rw [if_neg (by omega), if_neg (by omega), Nat.add_sub_cancel_left]
/-- the message that is popped by the reference: each value is of one cell -/
theorem pop_one {F S : List Mv} {i : Int} {f : Nat → Value} {B : Bool} (hm : ∀ x ∈ F ++ S, ∀ j, j < 21 → (x.2 j).oneCell' = true)
    (h : (B = false ∧ F ++ S = [] ∧ f = zM) ∨ (B = true ∧ F ++ S ≠ [] ∧ f = ((F ++ S).getD (i % ((F.length + S.length : Nat) : Int)).toNat mv0).2)) : ∀ j, j < 21 → (f j).oneCell' = true := by
  rcases h with ⟨_, _, rfl⟩ | ⟨_, _, rfl⟩
  · exact zM_one
  · rcases Nat.lt_or_ge (i % ((F.length + S.length : Nat) : Int)).toNat (F ++ S).length with g | g
    · rw [List.getD_eq_getElem?_getD, List.getElem?_eq_getElem g]
      exact hm _ (List.getElem_mem g)
    · rw [List.getD_eq_getElem?_getD, List.getElem?_eq_none g]
      exact zM_one
/-- both messages have the same bytes -/
theorem pop_both {F S : List Mv} {D i : Int} {f f2 : Nat → Value} {B B2 : Bool} {w w' : World} (hw : Below w.heap.size w w') (hm : ∀ m ∈ F ++ S, MsgOf w m.2 m.1)
    (h1 : (B = false ∧ F ++ S = [] ∧ f = zM) ∨ (B = true ∧ F ++ S ≠ [] ∧ f = ((F ++ S).getD (i % ((F.length + S.length : Nat) : Int)).toNat mv0).2)) (h2 : Popped ⟨F.map Prod.fst, S.map Prod.fst, D⟩ i f2 B2 w') :
    B2 = B ∧ ∃ bt, (∀ wx, Below w'.heap.size w' wx → Calls Try.prog 12 #[.agg (row 21 f2)] wx fun e w2 => e = .returned (.string bt) ∧ Below wx.heap.size wx w2) ∧ (∀ wx, Below w'.heap.size w' wx → Calls Try.prog 12 #[.agg (row 21 f)] wx fun e w2 => e = .returned (.string bt) ∧ Below wx.heap.size wx w2) ∧ ∀ j, j < 21 → (f2 j).oneCell' = true := by
  have ha : allQ ⟨F.map Prod.fst, S.map Prod.fst, D⟩ = (F ++ S).map Prod.fst := by unfold allQ; rw [List.map_append]
  rcases h1 with ⟨rfl, h3, rfl⟩ | ⟨rfl, h3, rfl⟩
  · rcases h2 with ⟨rfl, _, rfl⟩ | ⟨_, h4, _⟩
    · exact ⟨rfl, _, fun wx _ => zmsg_any wx, fun wx _ => zmsg_any wx, zM_one⟩
    · rw [ha, h3] at h4; exact absurd rfl h4
  · rcases h2 with ⟨_, h4, _⟩ | ⟨rfl, _, h5⟩
    · rw [ha] at h4; exact absurd (List.map_eq_nil_iff.1 h4) h3
    · have hl : 0 < (F ++ S).length := List.length_pos_iff.2 h3
      have hx : ixQ ⟨F.map Prod.fst, S.map Prod.fst, D⟩ i = (i % ((F.length + S.length : Nat) : Int)).toNat := by unfold ixQ; rw [ha, List.length_map, List.length_append]
      have hi : (i % ((F.length + S.length : Nat) : Int)).toNat < (F ++ S).length := by
        rw [List.length_append] at hl ⊢
        have h6 := Int.emod_lt_of_pos i (show (0 : Int) < ((F.length + S.length : Nat) : Int) by omega)
        have h7 := Int.emod_nonneg i (show ((F.length + S.length : Nat) : Int) ≠ 0 by omega)
        omega
      rw [ha, hx] at h5
      have he : ((F ++ S).map Prod.fst).getD (i % ((F.length + S.length : Nat) : Int)).toNat ⟨#[]⟩ = ((F ++ S).getD (i % ((F.length + S.length : Nat) : Int)).toNat mv0).1 := by
        rw [List.getD_eq_getElem?_getD, List.getD_eq_getElem?_getD, List.getElem?_map, List.getElem?_eq_getElem hi]; rfl
      rw [he] at h5
      have hmem : (F ++ S).getD (i % ((F.length + S.length : Nat) : Int)).toNat mv0 ∈ F ++ S := by
        rw [List.getD_eq_getElem?_getD, List.getElem?_eq_getElem hi]; exact List.getElem_mem hi
      exact ⟨rfl, _, fun wx hb => (h5.later hb).bytes, fun wx hb => ((hm _ hmem).later (hw.trans (hb.mono hw.size))).bytes, h5.1⟩
theorem TwQ.shape {C : Code17} {w0 w : World} {y g : Nat} {F S : List Mv} {D : Int} {v1 v2 : Value} (h : TwQ C w0 y g F S D v1 v2 w) : (∃ a c, v1 = .slice a F.length c) ∧ ∃ a c, v2 = .slice a S.length c := by
  obtain ⟨_, _, _, _, _, _, h6, h7⟩ := h
  exact ⟨grow_shape h6, grow_shape h7⟩
set_option maxRecDepth 100000 in
set_option maxHeartbeats 64000000 in
theorem lawP17 (C : Code17) (L : List Op17) (v : Value) (w : World) (hv : OpsM w v L) (hm : MemOps L) :
    Calls Try.prog 3 #[v] w fun e w' => e = .returned (.bool true) ∧ Below w.heap.size w w' := by
  have HV := Lib.hid hv
  have HM := Lib.hid hm
  obtain ⟨⟨a0, cap, rfl, _⟩, _⟩ := hv
  have hlm := hm.1
  clear hm
  go_enter Try.func3, Try.ntmps3
  go_wp2_with fail
  refine (awake17_any C w).mono ?_
  rintro e w1 ⟨rfl, hb1⟩
  have B1 := Lib.hid hb1
  clear hb1
  go_wp2_with fail
  refine (few17_any L _ 100 w1 ⟨HV.out.1.later B1.out, fun o ho => (HV.out.2 o ho).later B1.out⟩ HM.out).mono ?_
  rintro e w2 ⟨X, rfl, hX, hb2⟩
  have B2 := Lib.hid (B1.out.trans (hb2.mono B1.out.size))
  have HX := Lib.hid hX
  clear hb2 hX
  cases X with
  | false =>
    go_wp2_with fail
    refine (awake17_any C w2).mono ?_
    rintro e w3 ⟨rfl, hb3⟩
    go_wp2_with fail
    go_ret
    exact ⟨rfl, B2.out.trans (hb3.mono B2.out.size)⟩
  | true =>
  have HL := Lib.hid (show L.length ≤ 100 by have := (HX.out rfl).1; omega)
  have HFW := Lib.hid (fun i (hi : i < L.length) => (HX.out rfl).2 i hi (by have := HL.out; omega))
  clear hlm
  go_wp2_with fail
  refine (C.new w2).mono ?_
  rintro e w3 ⟨g, O, rfl, hat, hO, hb3⟩
  have HAT0 := Lib.hid hat
  have HO0 := Lib.hid hO
  have B3 := Lib.hid (B2.out.trans (hb3.mono B2.out.size))
  have HZ3 := Lib.hid hb3.size
  clear hat hO hb3
  go_upto_region 5 with fail
  obtain ⟨y, hy⟩ : ∃ y, w3.heap.size = y := ⟨_, rfl⟩
  have HT0 := Lib.hid (show TwQ C w y g [] [] 0 (.slice none 0 0) (.slice none 0 0) (w3.alloc (.cells #[.slice none 0 0, .slice none 0 0, .int .i64 0] 29)) from
    ⟨O, C.keep HAT0.out (Keeps.of ((Below.refl _ _).alloc (Nat.le_refl _) _)), fun b hb => ⟨Nat.le_trans B2.out.size (HO0.out b hb), fun e => by have := C.lt HAT0.out b hb; omega⟩, B3.out.alloc B3.out.size _, Blk.new' hy.symm rfl, by have := B3.out.size; omega, grow_nil _ _ _ _ _ _ _, grow_nil _ _ _ _ _ _ _⟩)
  obtain ⟨w4, hw4⟩ : ∃ w4, w3.alloc (.cells #[.slice none 0 0, .slice none 0 0, .int .i64 0] 29) = w4 := ⟨_, rfl⟩
  rw [hw4] at HT0 ⊢
  simp only [hy]
  clear hw4 hy
  go_wp2_with fail
  go_loopw [5] (fun x wr => ∃ (i : Nat) (F S : List Mv) (D : Int) (v1 v2 : Value), i ≤ L.length ∧ x = .int .i64 (i : Int) ∧ TwQ C w y g F S D v1 v2 wr ∧ (∀ m ∈ F ++ S, MsgOf w m.2 m.1) ∧ InvQ ⟨F.map Prod.fst, S.map Prod.fst, D⟩ ∧ D ≤ (i : Int)) (fun x _ => L.length - (intOf x).toNat)
  case atStart => exact ⟨0, [], [], 0, _, _, Nat.zero_le _, rfl, HT0.out, (fun m hm => by cases hm), inv_emptyQ, Int.le_refl _⟩
  case round =>
    obtain ⟨i, F, S, D, v1, v2, hi, rfl, htw, hmo, hin, hdi⟩ := hrel
    obtain ⟨⟨a1, c1, rfl⟩, ⟨a2, c2, rfl⟩⟩ := htw.shape
    have HTW := Lib.hid htw
    have HMO := Lib.hid hmo
    have HIN := Lib.hid hin
    have HDI := Lib.hid hdi
    have HBR := Lib.hid htw.below
    have i0 : (0 : Int) ≤ (i : Int) := by omega
    have ib : (i : Int) ≤ 100 := by have := HL.out; omega
    clear htw hmo hin hdi
    by_cases hlt : i < L.length
    case neg =>
      have hlt' : ¬ (i : Int) < (L.length : Int) := by omega
      clear hlt hi
      go_wp2_with fail
      go_ret
      exact ⟨rfl, HBR.out⟩
    have hlt' : (i : Int) < (L.length : Int) := by omega
    have HLT := Lib.hid hlt
    obtain ⟨lb, loff, rfl, _, hlb, hat, hma⟩ := opsM_at HV.out i hlt
    have HMX := Lib.hid (memOps_at HM.out hlt)
    have HFX := Lib.hid (HFW.out i hlt)
    obtain ⟨P, hP⟩ : ∃ P, L.getD i op170 = P := ⟨_, rfl⟩
    rw [hP] at hat hma HMX HFX
    have HMA := Lib.hid hma
    have HAT := Lib.hid (fun (wx : World) (hb : Below w.heap.size w wx) (j : Nat) (hj : j < 23) => show wx.cell? ⟨lb, loff + i * 23 + j, none⟩ = some (op23 P j) from by
      obtain ⟨h1, h2, h3⟩ := hat wx hb
      unfold op23
      split
      · rename_i e; subst e; exact h1
      · split
        · rename_i e; subst e; exact h3
        · have := h2 (j - 1) (by omega)
          rwa [show loff + i * 23 + 1 + (j - 1) = loff + i * 23 + j by omega] at this)
    clear hlt hi hat hma hP hlb
    go_wp2_with (with_reducible refine hold_load (.tmp 33) rfl ?_)
    refine wpl_load_at (.tmp 33) lb (loff + i * 23) 23 (op23 P) (by rfl) rfl (by rfl) (agg_op17 _) (size_op17 _) (HAT.out wr HBR.out) ?_
    go_wp2_with (with_reducible refine hold_store (.tmp 6) (.tmp 34) rfl ?_)
    obtain ⟨y6, hy6⟩ : ∃ y6, wr.heap.size = y6 := ⟨_, rfl⟩
    have HY6 := Lib.hid hy6
    have Z4 := Lib.hid (show Blk (wr.alloc (.cells #[.int .u8 0, .int .i64 0, .int .i64 0, .int .i64 0, .int .i64 0, .string ⟨#[]⟩, .int .i64 0, .int .i64 0, .int .i64 0, .string ⟨#[]⟩, .slice none 0 0, .slice none 0 0, .int .i64 0, .string ⟨#[]⟩, .slice none 0 0, .int .i64 0, .slice none 0 0, .int .i64 0, .int .i64 0, .string ⟨#[]⟩, .int .i64 0, .string ⟨#[]⟩, .int .i64 0] 44)) y6 23 (rowL [.int .u8 0, .int .i64 0, .int .i64 0, .int .i64 0, .int .i64 0, .string ⟨#[]⟩, .int .i64 0, .int .i64 0, .int .i64 0, .string ⟨#[]⟩, .slice none 0 0, .slice none 0 0, .int .i64 0, .string ⟨#[]⟩, .slice none 0 0, .int .i64 0, .slice none 0 0, .int .i64 0, .int .i64 0, .string ⟨#[]⟩, .int .i64 0, .string ⟨#[]⟩, .int .i64 0]) from Blk.new' hy6.symm rfl)
    have A4 := Lib.hid (show Below wr.heap.size wr (wr.alloc (.cells #[.int .u8 0, .int .i64 0, .int .i64 0, .int .i64 0, .int .i64 0, .string ⟨#[]⟩, .int .i64 0, .int .i64 0, .int .i64 0, .string ⟨#[]⟩, .slice none 0 0, .slice none 0 0, .int .i64 0, .string ⟨#[]⟩, .slice none 0 0, .int .i64 0, .slice none 0 0, .int .i64 0, .int .i64 0, .string ⟨#[]⟩, .int .i64 0, .string ⟨#[]⟩, .int .i64 0] 44)) from (Below.refl wr.heap.size wr).alloc (Nat.le_refl _) _)
    simp only [hy6]
    clear hy6
    refine wpl_store (.tmp 6) (.tmp 34) y6 0 23 23 _ (op23 P) rfl rfl (by rfl) (by rfl) (size_op17 _) Z4.out (by omega) (op23_one HMA.out) ?_
    intro w5 h5
    have X5 := Lib.hid (h5.1.congr (op23 P) fun i hi => by rw [if_pos ⟨Nat.zero_le _, by omega⟩]; rfl)
    have A5 := Lib.hid (A4.out.trans (h5.2.below (by have := HY6.out; omega)))
    have T5 := Lib.hid (HTW.out.on A5.out)
    clear h5 Z4 A4
    have k0 : w5.cell? ⟨y6, 0, none⟩ = some (.int .u8 (P.kind : Int)) := X5.out.get 0 (by omega)
    have HMC := Lib.hid (fun (wx : World) (hx : Blk wx y6 23 (op23 P)) (j : Nat) (hj : j < 21) => show wx.cell? ⟨y6, 1 + j, none⟩ = some (P.f j) from (hx.get (1 + j) (by omega)).trans (by rw [op23_msg P j hj]))
    have l1 : F.length ≤ 64 := by have := HIN.out.l1; dsimp only at this; rwa [List.length_map] at this
    have l2 : S.length ≤ 64 := by have := HIN.out.l2; dsimp only at this; rwa [List.length_map] at this
    have HL12 := Lib.hid (And.intro l1 l2)
    have HD0 := Lib.hid (show 0 ≤ D ∧ D ≤ 1000 from ⟨HIN.out.d0, by have := HDI.out; omega⟩)
    have HO1 := Lib.hid (fun x (hx : x ∈ F ++ S) => (HMO.out x hx).1)
    have hk3 : P.kind % 3 = 0 ∨ P.kind % 3 = 1 ∨ P.kind % 3 = 2 := by omega
    clear l1 l2
    rcases hk3 with hk3 | hk3 | hk3
    · have hr : ((P.kind : Nat) : Int).tmod 3 = 0 := by rw [Int.tmod_eq_emod_of_nonneg (by omega)]; omega
      clear hk3
      go_wp2_with (with_reducible refine hold_load (.tmp 45) rfl ?_)
      refine wpl_load_at (.tmp 45) y6 1 21 P.f (by rfl) rfl (by rfl) (agg_msg _) (size_msg _) (HMC.out w5 X5.out) ?_
      clear k0 hr
      obtain ⟨R, hR⟩ : ∃ R, P.m.right = R := ⟨_, rfl⟩
      have HR := Lib.hid hR
      go_wp2_with fail
      refine (rightmsg_is R w5 P.f _ _ _ _ _ _ _ _ _ _ _ _ _ _ _ (HMA.out.later T5.out.below) HMX.out.2.1 hR).mono ?_
      rintro e w6 ⟨rfl, hb6⟩
      have T6 := Lib.hid (T5.out.on hb6)
      have X6 := Lib.hid (X5.out.below hb6 X5.out.lt)
      clear hb6 hR
      cases R with
      | false =>
        go_wp2_with fail
        go_roundw
        case rel => exact ⟨i + 1, F, S, D, _, _, HLT.out, by go_num, T6.out, HMO.out, HIN.out, by have := HDI.out; push_cast; omega⟩
        case measure => have := HLT.out; simp [intOf]; omega
      | true =>
      obtain ⟨hmg, d, hd⟩ := mg_of HMA.out HR.out
      have HBZ := Lib.hid (show P.m.B.size ≤ 1000000 from (few_smallM HFX.out).2 _ _ _ _ _)
      obtain ⟨bb, hbb⟩ : ∃ bb, P.m.B = bb := ⟨_, rfl⟩
      rw [hbb] at hmg hd HBZ
      have HMG := Lib.hid hmg
      have HDD := Lib.hid hd
      clear hmg hd hbb
      obtain ⟨q0, q1, q2⟩ := cells3 T6.out.box
      go_wp2_with (with_reducible refine hold_load (.tmp 51) rfl ?_)
      refine wpl_load_at (.tmp 51) y6 1 21 P.f (by rfl) rfl (by rfl) (agg_msg _) (size_msg _) (HMC.out w6 X6.out) ?_
      go_wp2_with fail
      clear q0 q1 q2
      obtain ⟨O6, t1, t2, t3, t4, t5, t6, t7⟩ := T6.out
      have K1 := Lib.hid t1
      have K2 := Lib.hid t2
      have K4 := Lib.hid t4
      have K5 := Lib.hid t5
      refine (rpush17_any F S D (fun c => ¬ O6 c ∧ c ≠ y) a1 a2 c1 c2 P.f bb d w6 t6 t7 (fun x hx => HO1.out x (List.mem_append_left _ hx)) (fun x hx => HO1.out x (List.mem_append_right _ hx)) HL12.out ⟨HD0.out.1, by have := HD0.out.2; omega⟩ (HMG.out.later T6.out.below) HDD.out).mono ?_
      clear t1 t2 t3 t4 t5 t6 t7
      rintro e w7 ⟨v1, v2, F', S', D', n, rfl, hpq, hsub, r1, r2, hb7⟩
      obtain ⟨b1, d1, rfl⟩ := grow_shape r1
      obtain ⟨b2, d2, rfl⟩ := grow_shape r2
      have HPQ := Lib.hid hpq
      have HSUB := Lib.hid hsub
      have HR1 := Lib.hid r1
      have HR2 := Lib.hid r2
      have B7 := Lib.hid hb7
      clear hpq hsub r1 r2 hb7
      go_upto_region 15 with fail
      obtain ⟨y8, hy8⟩ : ∃ y8, w7.heap.size = y8 := ⟨_, rfl⟩
      have Z8 := Lib.hid (show Blk (w7.alloc (.cells #[.slice b1 F'.length d1, .slice b2 S'.length d2, .int .i64 D'] 29)) y8 3 (rowL [.slice b1 F'.length d1, .slice b2 S'.length d2, .int .i64 D']) from Blk.new' hy8.symm (row3_ _ _ _))
      have A8 := Lib.hid ((Below.refl w7.heap.size w7).alloc (Nat.le_refl _) (.cells #[.slice b1 F'.length d1, .slice b2 S'.length d2, .int .i64 D'] 29))
      obtain ⟨w8, hw8⟩ : ∃ w8, w7.alloc (.cells #[.slice b1 F'.length d1, .slice b2 S'.length d2, .int .i64 D'] 29) = w8 := ⟨_, rfl⟩
      rw [hw8] at Z8 A8 ⊢
      simp only [hy8]
      clear hw8 hy8
      have B8 := Lib.hid (B7.out.trans (A8.out.mono B7.out.size))
      have Y8 := Lib.hid (K4.out.below B8.out K4.out.lt)
      have X8 := Lib.hid (X6.out.below B8.out X6.out.lt)
      obtain ⟨q0, q1, q2⟩ := cells3 Z8.out
      obtain ⟨c0, c1', c2'⟩ := cells3 Y8.out
      have g0 := Y8.out.frz 0
      have g1 := Y8.out.frz 1
      have g2 := Y8.out.frz 2
      go_upto_region 16 with fail
      have U9 := Lib.hid (((Upd.set w8 y 0 (.slice b1 F'.length d1)).trans (Upd.set _ y 1 (.slice b2 S'.length d2))).trans (Upd.set _ y 2 (.int .i64 D')))
      have Y9 := Lib.hid ((((Y8.out.set 0 (.slice b1 F'.length d1)).set 1 (.slice b2 S'.length d2)).set 2 (.int .i64 D')).congr (rowL [.slice b1 F'.length d1, .slice b2 S'.length d2, .int .i64 D']) fun j hj => by
        match j, hj with
        | 0, _ => rfl
        | 1, _ => rfl
        | 2, _ => rfl)
      have HYY := Lib.hid (show y < y6 by have := HTW.out.box.lt; have := HY6.out; omega)
      have X9 := Lib.hid (X8.out.upd U9.out (by have := HYY.out; omega))
      obtain ⟨w9, hw9⟩ : ∃ w9, ((w8.setCell ⟨y, 0, none⟩ (.slice b1 F'.length d1)).setCell ⟨y, 1, none⟩ (.slice b2 S'.length d2)).setCell ⟨y, 2, none⟩ (.int .i64 D') = w9 := ⟨_, rfl⟩
      rw [hw9] at U9 Y9 X9 ⊢
      clear hw9 q0 q1 q2 c0 c1' c2' g0 g1 g2
      have TD9 := Lib.hid (twd_put K1.out K2.out T6.out.below K4.out K5.out (HR1.out.later A8.out) (HR2.out.later A8.out) B8.out U9.out Y9.out)
      go_wp2_with (with_reducible refine hold_load (.tmp 58) rfl ?_)
      refine wpl_load_at (.tmp 58) y6 1 21 P.f (by rfl) rfl (by rfl) (agg_msg _) (size_msg _) (HMC.out w9 X9.out) ?_
      go_wp2_with fail
      refine (HMG.out.later TD9.out.below).bytes.mono ?_
      rintro e w10 ⟨rfl, hb10⟩
      have TD10 := Lib.hid (TD9.out.on hb10)
      clear hb10
      go_wp2_with fail
      refine (twd_push C bb HPQ.out TD10.out HIN.out (by have := HD0.out; show D ≤ 1000000; omega) HBZ.out).mono ?_
      rintro e wt ⟨rfl, td11⟩
      have HTT := Lib.hid (td11.meet rfl)
      clear td11
      have HMT := Lib.hid (show ∀ m ∈ F' ++ S', MsgOf w m.2 m.1 from fun m hm => by
        rcases HSUB.out m hm with h | h
        · exact HMO.out m h
        · rw [h]; exact HMG.out)
      have HIT := Lib.hid (show InvQ ⟨F'.map Prod.fst, S'.map Prod.fst, D'⟩ from by
        have := inv_pushQ HIN.out HBZ.out
        rw [HPQ.out] at this
        exact this)
      have HDT := Lib.hid (show D' ≤ (i : Int) + 1 from by
        have h1 := push_dropped ⟨F.map Prod.fst, S.map Prod.fst, D⟩ bb
        rw [HPQ.out] at h1
        have h2 : D' ≤ D + 1 := h1
        have := HDI.out
        omega)
      have nn : ((n : Int) != n) = false := by simp
      go_upto_region 24 with fail
      have HBT := Lib.hid HTT.out.below
      obtain ⟨fn, hfn⟩ : ∃ fn, F'.length = fn := ⟨_, rfl⟩
      obtain ⟨sn, hsn⟩ : ∃ sn, S'.length = sn := ⟨_, rfl⟩
      have l1' := HIT.out.l1
      have l2' := HIT.out.l2
      dsimp only at l1' l2'
      rw [List.length_map] at l1' l2'
      have fb : (fn : Int) ≤ 64 := by omega
      have sb' : (sn : Int) ≤ 64 := by omega
      have f0' : (0 : Int) ≤ (fn : Int) := by omega
      have s0' : (0 : Int) ≤ (sn : Int) := by omega
      have HLN := Lib.hid (fun wx (hb : Below wt.heap.size wt wx) => show Calls Try.prog 16 #[.pointer (some ⟨g, 0, none⟩)] wx fun e w' => e = .returned (.tuple #[.int .i64 (fn : Int), .int .i64 (sn : Int)]) ∧ Below wx.heap.size wx w' from by
        have := qu_lanes C (HTT.out.on hb).qx HIT.out
        dsimp only at this
        rw [List.length_map, List.length_map, hfn, hsn] at this
        exact this)
      have HLE := Lib.hid (fun wx (hb : Below wt.heap.size wt wx) => show Calls Try.prog 17 #[.pointer (some ⟨g, 0, none⟩)] wx fun e w' => e = .returned (.int .i64 ((fn : Int) + (sn : Int))) ∧ Below wx.heap.size wx w' from by
        have := qu_len C (HTT.out.on hb).qx HIT.out
        dsimp only at this
        rw [List.length_map, List.length_map, hfn, hsn, Int.natCast_add] at this
        exact this)
      have HDR := Lib.hid (fun wx (hb : Below wt.heap.size wt wx) => show Calls Try.prog 18 #[.pointer (some ⟨g, 0, none⟩)] wx fun e w' => e = .returned (.int .i64 D') ∧ Below wx.heap.size wx w' from qu_dropped C (HTT.out.on hb).qx HIT.out)
      have HCT := Lib.hid (fun (wx : World) (hb : Below wt.heap.size wt wx) => show wx.cell? ⟨y, 0, none⟩ = some (.slice b1 fn d1) ∧ wx.cell? ⟨y, 1, none⟩ = some (.slice b2 sn d2) ∧ wx.cell? ⟨y, 2, none⟩ = some (.int .i64 D') from by
        have := cells3 (HTT.out.on hb).box
        rwa [hfn, hsn] at this)
      have ew : IntKind.i64.wrap ((fn : Int) + (sn : Int)) = (fn : Int) + (sn : Int) := by rw [IntKind.wrap_i64]; omega
      clear hfn hsn l1' l2'
      go_wp2_with fail
      refine (HLN.out wt (Below.refl _ _)).mono ?_
      rintro e wu ⟨rfl, hbu⟩
      have BU := Lib.hid hbu
      clear hbu
      go_upto_region 25 with fail
      refine plan_abs (fun wx => Below wt.heap.size wt wx) [(true, 0), (true, 1), (true, 2), (true, 3), (true, 4), (true, 5), (true, 6), (true, 7), (true, 8), (true, 9), (true, 10), (true, 11), (true, 12), (true, 13), (true, 15), (true, 16), (true, 17), (false, 14), (true, 18), (true, 19), (true, 20), (true, 21), (true, 23), (true, 24), (false, 22), (true, 25), (true, 26)] (by kernel_rfl) (by kernel_rfl) (fun _ _ d _ _ h => by cases d <;> exact h) fun wv hsv => ⟨BU.out.trans ((hsv.below wu.heap.size).mono BU.out.size), ?_⟩
      have BV := Lib.hid (BU.out.trans ((hsv.below wu.heap.size).mono BU.out.size))
      clear hsv
      iterate 17 (first | (refine pl_off _ rfl rfl ?_; simp only [Act.put, List.setIfInBounds_toArray, List.set_cons_zero, List.set_cons_succ, List.getElem_toArray, List.getElem_cons_zero, List.getElem_cons_succ]) | (refine pl_run _ ?_ rfl rfl ?_ ?_; rotate_left; (focus (intro w' hS; obtain ⟨q0, q1, q2⟩ := HCT.out w' hS; go_simp; exact rfl)); simp only [Act.put, List.setIfInBounds_toArray, List.set_cons_zero, List.set_cons_succ, List.getElem_toArray, List.getElem_cons_zero, List.getElem_cons_succ]))
      refine pl_call1 (R := fun w' => Below wv.heap.size wv w') _ rfl rfl (by go_simp) (HLE.out wv BV.out) (fun w' hb => BV.out.trans (hb.mono BV.out.size)) fun wx hbx => ?_
      have BX := Lib.hid (BV.out.trans (hbx.mono BV.out.size))
      clear hbx
      simp only [Act.put, List.setIfInBounds_toArray, List.set_cons_zero, List.set_cons_succ, List.getElem_toArray, List.getElem_cons_zero, List.getElem_cons_succ]
      iterate 6 (first | (refine pl_off _ rfl rfl ?_; simp only [Act.put, List.setIfInBounds_toArray, List.set_cons_zero, List.set_cons_succ, List.getElem_toArray, List.getElem_cons_zero, List.getElem_cons_succ]) | (refine pl_run _ ?_ rfl rfl ?_ ?_; rotate_left; (focus (intro w' hS; obtain ⟨q0, q1, q2⟩ := HCT.out w' hS; go_simp; exact rfl)); simp only [Act.put, List.setIfInBounds_toArray, List.set_cons_zero, List.set_cons_succ, List.getElem_toArray, List.getElem_cons_zero, List.getElem_cons_succ]))
      refine pl_call1 (R := fun w' => Below wx.heap.size wx w') _ rfl rfl (by go_simp) (HDR.out wx BX.out) (fun w' hb => BX.out.trans (hb.mono BX.out.size)) fun wz hbz => ?_
      have BZ := Lib.hid (BX.out.trans (hbz.mono BX.out.size))
      clear hbz
      simp only [Act.put, List.setIfInBounds_toArray, List.set_cons_zero, List.set_cons_succ, List.getElem_toArray, List.getElem_cons_zero, List.getElem_cons_succ]
      iterate 2 (first | (refine pl_off _ rfl rfl ?_; simp only [Act.put, List.setIfInBounds_toArray, List.set_cons_zero, List.set_cons_succ, List.getElem_toArray, List.getElem_cons_zero, List.getElem_cons_succ]) | (refine pl_run _ ?_ rfl rfl ?_ ?_; rotate_left; (focus (intro w' hS; obtain ⟨q0, q1, q2⟩ := HCT.out w' hS; go_simp; exact rfl)); simp only [Act.put, List.setIfInBounds_toArray, List.set_cons_zero, List.set_cons_succ, List.getElem_toArray, List.getElem_cons_zero, List.getElem_cons_succ]))
      refine pl_end ?_
      go_wp2_with fail
      go_roundw
      case rel => exact ⟨i + 1, F', S', D', _, _, HLT.out, by go_num, HTT.out.on BZ.out, HMT.out, HIT.out, by have := HDT.out; push_cast; omega⟩
      case measure => have := HLT.out; simp [intOf]; omega
    · have hr : ((P.kind : Nat) : Int).tmod 3 = 1 := by rw [Int.tmod_eq_emod_of_nonneg (by omega)]; omega
      clear hk3
      have k22 : w5.cell? ⟨y6, 22, none⟩ = some (.int .i64 P.i) := X5.out.get 22 (by omega)
      obtain ⟨q0, q1, q2⟩ := cells3 T5.out.box
      go_upto_region 19 with fail
      clear k0 hr
      go_wp2_with fail
      clear q0 q1 q2 k22
      obtain ⟨O6, t1, t2, t3, t4, t5, t6, t7⟩ := T5.out
      have K1 := Lib.hid t1
      have K2 := Lib.hid t2
      have K4 := Lib.hid t4
      have K5 := Lib.hid t5
      refine (rpop17_any F S D P.i (fun c => ¬ O6 c ∧ c ≠ y) a1 a2 c1 c2 w5 t6 t7 (fun x hx => HO1.out x (List.mem_append_left _ hx)) (fun x hx => HO1.out x (List.mem_append_right _ hx)) HL12.out HMX.out.2.2).mono ?_
      clear t1 t2 t3 t4 t5 t6 t7
      rintro e w7 ⟨v1, v2, F', S', f, B, rfl, hpq, hsub, r1, r2, hb7, hff⟩
      obtain ⟨b1, d1, rfl⟩ := grow_shape r1
      obtain ⟨b2, d2, rfl⟩ := grow_shape r2
      have HPQ := Lib.hid hpq
      have HSUB := Lib.hid hsub
      have HR1 := Lib.hid r1
      have HR2 := Lib.hid r2
      have B7 := Lib.hid hb7
      have HFF := Lib.hid hff
      clear hpq hsub r1 r2 hb7 hff
      go_wp2_with (with_reducible refine hold_store (.tmp 10) (.tmp 72) rfl ?_)
      obtain ⟨y9, hy9⟩ : ∃ y9, w7.heap.size = y9 := ⟨_, rfl⟩
      have HY9 := Lib.hid hy9
      have Z9 := Lib.hid (show Blk ((w7.alloc (.cells #[.slice b1 F'.length d1, .slice b2 S'.length d2, .int .i64 D] 29)).alloc (.cells #[.int .i64 0, .int .i64 0, .int .i64 0, .int .i64 0, .string ⟨#[]⟩, .int .i64 0, .int .i64 0, .int .i64 0, .string ⟨#[]⟩, .slice none 0 0, .slice none 0 0, .int .i64 0, .string ⟨#[]⟩, .slice none 0 0, .int .i64 0, .slice none 0 0, .int .i64 0, .int .i64 0, .string ⟨#[]⟩, .int .i64 0, .string ⟨#[]⟩] 42)) y9 3 (rowL [.slice b1 F'.length d1, .slice b2 S'.length d2, .int .i64 D]) from (Blk.new' hy9.symm (row3_ _ _ _)).alloc _)
      have Z10 := Lib.hid (show Blk ((w7.alloc (.cells #[.slice b1 F'.length d1, .slice b2 S'.length d2, .int .i64 D] 29)).alloc (.cells #[.int .i64 0, .int .i64 0, .int .i64 0, .int .i64 0, .string ⟨#[]⟩, .int .i64 0, .int .i64 0, .int .i64 0, .string ⟨#[]⟩, .slice none 0 0, .slice none 0 0, .int .i64 0, .string ⟨#[]⟩, .slice none 0 0, .int .i64 0, .slice none 0 0, .int .i64 0, .int .i64 0, .string ⟨#[]⟩, .int .i64 0, .string ⟨#[]⟩] 42)) (y9 + 1) 21 (rowL [.int .i64 0, .int .i64 0, .int .i64 0, .int .i64 0, .string ⟨#[]⟩, .int .i64 0, .int .i64 0, .int .i64 0, .string ⟨#[]⟩, .slice none 0 0, .slice none 0 0, .int .i64 0, .string ⟨#[]⟩, .slice none 0 0, .int .i64 0, .slice none 0 0, .int .i64 0, .int .i64 0, .string ⟨#[]⟩, .int .i64 0, .string ⟨#[]⟩]) from Blk.new' (by simp; omega) rfl)
      have A9 := Lib.hid (show Below w7.heap.size w7 ((w7.alloc (.cells #[.slice b1 F'.length d1, .slice b2 S'.length d2, .int .i64 D] 29)).alloc (.cells #[.int .i64 0, .int .i64 0, .int .i64 0, .int .i64 0, .string ⟨#[]⟩, .int .i64 0, .int .i64 0, .int .i64 0, .string ⟨#[]⟩, .slice none 0 0, .slice none 0 0, .int .i64 0, .string ⟨#[]⟩, .slice none 0 0, .int .i64 0, .slice none 0 0, .int .i64 0, .int .i64 0, .string ⟨#[]⟩, .int .i64 0, .string ⟨#[]⟩] 42)) from ((Below.refl w7.heap.size w7).alloc (Nat.le_refl _) _).alloc (by simp) _)
      simp only [hy9]
      clear hy9
      refine wpl_store (.tmp 10) (.tmp 72) (y9 + 1) 0 21 21 _ f rfl rfl (by rfl) (by rfl) (size_msg _) Z10.out (by omega) (pop_one HO1.out HFF.out) ?_
      intro w8 h8
      have X10 := Lib.hid (h8.1.congr f fun i hi => by rw [if_pos ⟨Nat.zero_le _, by omega⟩]; rfl)
      have Z8 := Lib.hid (Z9.out.upd h8.2 (by omega))
      have A8 := Lib.hid (A9.out.trans (h8.2.below (by have := HY9.out; omega)))
      clear h8 Z9 Z10 A9
      have B8 := Lib.hid (B7.out.trans (A8.out.mono B7.out.size))
      have Y8 := Lib.hid (K4.out.below B8.out K4.out.lt)
      have X8 := Lib.hid (X5.out.below B8.out X5.out.lt)
      obtain ⟨q0, q1, q2⟩ := cells3 Z8.out
      obtain ⟨c0, c1', c2'⟩ := cells3 Y8.out
      have g0 := Y8.out.frz 0
      have g1 := Y8.out.frz 1
      have g2 := Y8.out.frz 2
      go_upto_region 21 with fail
      have U9 := Lib.hid (((Upd.set w8 y 0 (.slice b1 F'.length d1)).trans (Upd.set _ y 1 (.slice b2 S'.length d2))).trans (Upd.set _ y 2 (.int .i64 D)))
      have Y9 := Lib.hid ((((Y8.out.set 0 (.slice b1 F'.length d1)).set 1 (.slice b2 S'.length d2)).set 2 (.int .i64 D)).congr (rowL [.slice b1 F'.length d1, .slice b2 S'.length d2, .int .i64 D]) fun j hj => by
        match j, hj with
        | 0, _ => rfl
        | 1, _ => rfl
        | 2, _ => rfl)
      have HYY := Lib.hid (show y < y6 ∧ y < y9 by have := HTW.out.box.lt; have := HY6.out; have h1 := K4.out.lt; have := HY9.out; have := B7.out.size; exact ⟨by omega, by omega⟩)
      have X9 := Lib.hid (X8.out.upd U9.out (by have := HYY.out; omega))
      have XF := Lib.hid (X10.out.upd U9.out (by have := HYY.out; omega))
      obtain ⟨w9, hw9⟩ : ∃ w9, ((w8.setCell ⟨y, 0, none⟩ (.slice b1 F'.length d1)).setCell ⟨y, 1, none⟩ (.slice b2 S'.length d2)).setCell ⟨y, 2, none⟩ (.int .i64 D) = w9 := ⟨_, rfl⟩
      rw [hw9] at U9 Y9 X9 XF ⊢
      clear hw9 q0 q1 q2 c0 c1' c2' g0 g1 g2
      obtain ⟨j1, j2, j3, j4, j5, j6, j7⟩ := twd_put0 K1.out K2.out T5.out.below K4.out K5.out (HR1.out.later A8.out) (HR2.out.later A8.out) B8.out U9.out Y9.out
      have J1 := Lib.hid j1
      have HNX := Lib.hid (fun (q' : Qu) (w' : World) (hn : Next17 C.At O6 w9 g q' w') => And.intro (TwD.next j2 j3 j4 j5 j6 j7 hn) (show Blk w' (y9 + 1) 21 f from by
        obtain ⟨_, _, hk, _⟩ := hn
        exact XF.out.of_heap (hk.block (y9 + 1) (fun ho => by have h1 := C.lt K1.out _ ho; have := HY9.out; have := B7.out.size; omega) XF.out.lt)))
      clear j1 j2 j3 j4 j5 j6 j7
      have k22 : w9.cell? ⟨y6, 22, none⟩ = some (.int .i64 P.i) := X9.out.get 22 (by omega)
      go_wp2_with fail
      refine (C.pop O6 w9 g _ P.i J1.out HIN.out HMX.out.2.2).mono ?_
      rintro e w10 ⟨f2, B2, rfl, hpop, hn⟩
      obtain ⟨td10, xf10⟩ := HNX.out _ _ hn
      obtain ⟨rfl, bt, hq1, hq2, ho2⟩ := pop_both (w := w) td10.below HMO.out HFF.out hpop
      have TD10 := Lib.hid td10
      have XF10 := Lib.hid xf10
      have HQ1 := Lib.hid hq1
      have HQ2 := Lib.hid hq2
      have HO2 := Lib.hid ho2
      clear td10 hpop hq1 hq2 ho2 k22 hn xf10
      go_wp2_with (with_reducible refine hold_store (.tmp 12) (.tmp 80) rfl ?_)
      obtain ⟨y12, hy12⟩ : ∃ y12, w10.heap.size = y12 := ⟨_, rfl⟩
      have HY12 := Lib.hid hy12
      have Z12 := Lib.hid (show Blk (w10.alloc (.cells #[.int .i64 0, .int .i64 0, .int .i64 0, .int .i64 0, .string ⟨#[]⟩, .int .i64 0, .int .i64 0, .int .i64 0, .string ⟨#[]⟩, .slice none 0 0, .slice none 0 0, .int .i64 0, .string ⟨#[]⟩, .slice none 0 0, .int .i64 0, .slice none 0 0, .int .i64 0, .int .i64 0, .string ⟨#[]⟩, .int .i64 0, .string ⟨#[]⟩] 42)) y12 21 (rowL [.int .i64 0, .int .i64 0, .int .i64 0, .int .i64 0, .string ⟨#[]⟩, .int .i64 0, .int .i64 0, .int .i64 0, .string ⟨#[]⟩, .slice none 0 0, .slice none 0 0, .int .i64 0, .string ⟨#[]⟩, .slice none 0 0, .int .i64 0, .slice none 0 0, .int .i64 0, .int .i64 0, .string ⟨#[]⟩, .int .i64 0, .string ⟨#[]⟩]) from Blk.new' hy12.symm rfl)
      have A12 := Lib.hid (show Below w10.heap.size w10 (w10.alloc (.cells #[.int .i64 0, .int .i64 0, .int .i64 0, .int .i64 0, .string ⟨#[]⟩, .int .i64 0, .int .i64 0, .int .i64 0, .string ⟨#[]⟩, .slice none 0 0, .slice none 0 0, .int .i64 0, .string ⟨#[]⟩, .slice none 0 0, .int .i64 0, .slice none 0 0, .int .i64 0, .int .i64 0, .string ⟨#[]⟩, .int .i64 0, .string ⟨#[]⟩] 42)) from (Below.refl w10.heap.size w10).alloc (Nat.le_refl _) _)
      simp only [hy12]
      clear hy12
      refine wpl_store (.tmp 12) (.tmp 80) y12 0 21 21 _ f2 rfl rfl (by rfl) (by rfl) (size_msg _) Z12.out (by omega) HO2.out ?_
      intro w12 h12
      have X12 := Lib.hid (h12.1.congr f2 fun i hi => by rw [if_pos ⟨Nat.zero_le _, by omega⟩]; rfl)
      have B12 := Lib.hid (A12.out.trans (h12.2.below (by have := HY12.out; omega)))
      have XF12 := Lib.hid (XF10.out.below B12.out XF10.out.lt)
      clear h12 Z12 A12
      go_upto_region 22 with fail
      have bb' : (B2 != B2) = false := by simp
      have tt : (bt.toList == bt.toList) = true := by simp
      refine plan_abs (fun wx => Below w12.heap.size w12 wx) [(true, 0), (true, 1), (true, 2), (true, 3), (true, 4), (true, 6), (false, 5), (false, 7), (true, 8), (true, 9)] (by kernel_rfl) (by kernel_rfl) (fun _ _ d _ _ h => by cases d <;> exact h) fun w13 hs13 => ⟨hs13.below _, ?_⟩
      have B13 := Lib.hid (hs13.below w12.heap.size)
      clear hs13
      iterate 4 (refine pl_run _ ?_ rfl rfl ?_ ?_; rotate_left; (focus (intro w' hS; go_simp; exact rfl)); simp only [Act.put, List.setIfInBounds_toArray, List.set_cons_zero, List.set_cons_succ, List.getElem_toArray, List.getElem_cons_zero, List.getElem_cons_succ])
      refine pl_run _ (.agg (row 21 f2)) rfl rfl (fun w' hS => run_op_load_at (b := y12) (off := 0) rfl (by rfl) (agg_msg _) (size_msg _) (fun j hj => by rw [Nat.zero_add]; exact (X12.out.below hS X12.out.lt).get j hj)) ?_
      simp only [Act.put, List.setIfInBounds_toArray, List.set_cons_zero, List.set_cons_succ, List.getElem_toArray, List.getElem_cons_zero, List.getElem_cons_succ]
      refine pl_run _ (.agg (row 21 f)) rfl rfl (fun w' hS => run_op_load_at (b := y9 + 1) (off := 0) rfl (by rfl) (agg_msg _) (size_msg _) (fun j hj => by rw [Nat.zero_add]; exact (XF12.out.below hS XF12.out.lt).get j hj)) ?_
      simp only [Act.put, List.setIfInBounds_toArray, List.set_cons_zero, List.set_cons_succ, List.getElem_toArray, List.getElem_cons_zero, List.getElem_cons_succ]
      refine pl_call1 (R := fun w' => Below w13.heap.size w13 w') _ rfl rfl (by go_simp) (HQ1.out w13 (B12.out.trans (B13.out.mono B12.out.size))) (fun w' hb => B13.out.trans (hb.mono B13.out.size)) fun w14 hb14 => ?_
      have B14 := Lib.hid (B13.out.trans (hb14.mono B13.out.size))
      clear hb14
      simp only [Act.put, List.setIfInBounds_toArray, List.set_cons_zero, List.set_cons_succ, List.getElem_toArray, List.getElem_cons_zero, List.getElem_cons_succ]
      refine pl_call1 (R := fun w' => Below w14.heap.size w14 w') _ rfl rfl (by go_simp) (HQ2.out w14 (B12.out.trans (B14.out.mono B12.out.size))) (fun w' hb => B14.out.trans (hb.mono B14.out.size)) fun wt hb15 => ?_
      have B15 := Lib.hid (B12.out.trans ((B14.out.trans (hb15.mono B14.out.size)).mono B12.out.size))
      clear hb15
      simp only [Act.put, List.setIfInBounds_toArray, List.set_cons_zero, List.set_cons_succ, List.getElem_toArray, List.getElem_cons_zero, List.getElem_cons_succ]
      iterate 2 (refine pl_run _ ?_ rfl rfl ?_ ?_; rotate_left; (focus (intro w' hS; go_simp; exact rfl)); simp only [Act.put, List.setIfInBounds_toArray, List.set_cons_zero, List.set_cons_succ, List.getElem_toArray, List.getElem_cons_zero, List.getElem_cons_succ])
      refine pl_end ?_
      have HTT := Lib.hid ((TD10.out.on B15.out).meet HPQ.out)
      have HMT := Lib.hid (show ∀ m ∈ F' ++ S', MsgOf w m.2 m.1 from fun m hm => HMO.out m (HSUB.out m hm))
      have HIT := Lib.hid (show InvQ ⟨F'.map Prod.fst, S'.map Prod.fst, D⟩ from by
        have := inv_popQ HIN.out P.i
        rw [HPQ.out] at this
        exact this)
      have HDT := Lib.hid (show D ≤ (i : Int) + 1 from by have := HDI.out; omega)
      go_upto_region 24 with fail
      have HBT := Lib.hid HTT.out.below
      obtain ⟨fn, hfn⟩ : ∃ fn, F'.length = fn := ⟨_, rfl⟩
      obtain ⟨sn, hsn⟩ : ∃ sn, S'.length = sn := ⟨_, rfl⟩
      have l1' := HIT.out.l1
      have l2' := HIT.out.l2
      dsimp only at l1' l2'
      rw [List.length_map] at l1' l2'
      have fb : (fn : Int) ≤ 64 := by omega
      have sb' : (sn : Int) ≤ 64 := by omega
      have f0' : (0 : Int) ≤ (fn : Int) := by omega
      have s0' : (0 : Int) ≤ (sn : Int) := by omega
      have HLN := Lib.hid (fun wx (hb : Below wt.heap.size wt wx) => show Calls Try.prog 16 #[.pointer (some ⟨g, 0, none⟩)] wx fun e w' => e = .returned (.tuple #[.int .i64 (fn : Int), .int .i64 (sn : Int)]) ∧ Below wx.heap.size wx w' from by
        have := qu_lanes C (HTT.out.on hb).qx HIT.out
        dsimp only at this
        rw [List.length_map, List.length_map, hfn, hsn] at this
        exact this)
      have HLE := Lib.hid (fun wx (hb : Below wt.heap.size wt wx) => show Calls Try.prog 17 #[.pointer (some ⟨g, 0, none⟩)] wx fun e w' => e = .returned (.int .i64 ((fn : Int) + (sn : Int))) ∧ Below wx.heap.size wx w' from by
        have := qu_len C (HTT.out.on hb).qx HIT.out
        dsimp only at this
        rw [List.length_map, List.length_map, hfn, hsn, Int.natCast_add] at this
        exact this)
      have HDR := Lib.hid (fun wx (hb : Below wt.heap.size wt wx) => show Calls Try.prog 18 #[.pointer (some ⟨g, 0, none⟩)] wx fun e w' => e = .returned (.int .i64 D) ∧ Below wx.heap.size wx w' from qu_dropped C (HTT.out.on hb).qx HIT.out)
      have HCT := Lib.hid (fun (wx : World) (hb : Below wt.heap.size wt wx) => show wx.cell? ⟨y, 0, none⟩ = some (.slice b1 fn d1) ∧ wx.cell? ⟨y, 1, none⟩ = some (.slice b2 sn d2) ∧ wx.cell? ⟨y, 2, none⟩ = some (.int .i64 D) from by
        have := cells3 (HTT.out.on hb).box
        rwa [hfn, hsn] at this)
      have ew : IntKind.i64.wrap ((fn : Int) + (sn : Int)) = (fn : Int) + (sn : Int) := by rw [IntKind.wrap_i64]; omega
      clear hfn hsn l1' l2'
      go_wp2_with fail
      refine (HLN.out wt (Below.refl _ _)).mono ?_
      rintro e wu ⟨rfl, hbu⟩
      have BU := Lib.hid hbu
      clear hbu
      go_upto_region 25 with fail
      refine plan_abs (fun wx => Below wt.heap.size wt wx) [(true, 0), (true, 1), (true, 2), (true, 3), (true, 4), (true, 5), (true, 6), (true, 7), (true, 8), (true, 9), (true, 10), (true, 11), (true, 12), (true, 13), (true, 15), (true, 16), (true, 17), (false, 14), (true, 18), (true, 19), (true, 20), (true, 21), (true, 23), (true, 24), (false, 22), (true, 25), (true, 26)] (by kernel_rfl) (by kernel_rfl) (fun _ _ d _ _ h => by cases d <;> exact h) fun wv hsv => ⟨BU.out.trans ((hsv.below wu.heap.size).mono BU.out.size), ?_⟩
      have BV := Lib.hid (BU.out.trans ((hsv.below wu.heap.size).mono BU.out.size))
      clear hsv
      iterate 17 (first | (refine pl_off _ rfl rfl ?_; simp only [Act.put, List.setIfInBounds_toArray, List.set_cons_zero, List.set_cons_succ, List.getElem_toArray, List.getElem_cons_zero, List.getElem_cons_succ]) | (refine pl_run _ ?_ rfl rfl ?_ ?_; rotate_left; (focus (intro w' hS; obtain ⟨q0, q1, q2⟩ := HCT.out w' hS; go_simp; exact rfl)); simp only [Act.put, List.setIfInBounds_toArray, List.set_cons_zero, List.set_cons_succ, List.getElem_toArray, List.getElem_cons_zero, List.getElem_cons_succ]))
      refine pl_call1 (R := fun w' => Below wv.heap.size wv w') _ rfl rfl (by go_simp) (HLE.out wv BV.out) (fun w' hb => BV.out.trans (hb.mono BV.out.size)) fun wx hbx => ?_
      have BX := Lib.hid (BV.out.trans (hbx.mono BV.out.size))
      clear hbx
      simp only [Act.put, List.setIfInBounds_toArray, List.set_cons_zero, List.set_cons_succ, List.getElem_toArray, List.getElem_cons_zero, List.getElem_cons_succ]
      iterate 6 (first | (refine pl_off _ rfl rfl ?_; simp only [Act.put, List.setIfInBounds_toArray, List.set_cons_zero, List.set_cons_succ, List.getElem_toArray, List.getElem_cons_zero, List.getElem_cons_succ]) | (refine pl_run _ ?_ rfl rfl ?_ ?_; rotate_left; (focus (intro w' hS; obtain ⟨q0, q1, q2⟩ := HCT.out w' hS; go_simp; exact rfl)); simp only [Act.put, List.setIfInBounds_toArray, List.set_cons_zero, List.set_cons_succ, List.getElem_toArray, List.getElem_cons_zero, List.getElem_cons_succ]))
      refine pl_call1 (R := fun w' => Below wx.heap.size wx w') _ rfl rfl (by go_simp) (HDR.out wx BX.out) (fun w' hb => BX.out.trans (hb.mono BX.out.size)) fun wz hbz => ?_
      have BZ := Lib.hid (BX.out.trans (hbz.mono BX.out.size))
      clear hbz
      simp only [Act.put, List.setIfInBounds_toArray, List.set_cons_zero, List.set_cons_succ, List.getElem_toArray, List.getElem_cons_zero, List.getElem_cons_succ]
      iterate 2 (first | (refine pl_off _ rfl rfl ?_; simp only [Act.put, List.setIfInBounds_toArray, List.set_cons_zero, List.set_cons_succ, List.getElem_toArray, List.getElem_cons_zero, List.getElem_cons_succ]) | (refine pl_run _ ?_ rfl rfl ?_ ?_; rotate_left; (focus (intro w' hS; obtain ⟨q0, q1, q2⟩ := HCT.out w' hS; go_simp; exact rfl)); simp only [Act.put, List.setIfInBounds_toArray, List.set_cons_zero, List.set_cons_succ, List.getElem_toArray, List.getElem_cons_zero, List.getElem_cons_succ]))
      refine pl_end ?_
      go_wp2_with fail
      go_roundw
      case rel => exact ⟨i + 1, F', S', D, _, _, HLT.out, by go_num, HTT.out.on BZ.out, HMT.out, HIT.out, by have := HDT.out; push_cast; omega⟩
      case measure => have := HLT.out; simp [intOf]; omega
    · have hr : ((P.kind : Nat) : Int).tmod 3 = 2 := by rw [Int.tmod_eq_emod_of_nonneg (by omega)]; omega
      clear hk3
      go_upto_region 10 with fail
      clear k0 hr
      go_wp2_with fail
      refine (twd_clear C T5.out.diff HIN.out).mono ?_
      rintro e w6 ⟨rfl, td6⟩
      obtain ⟨O6, t1, t2, t3, t4, t5, t6, t7⟩ := td6
      have K1 := Lib.hid t1
      have K2 := Lib.hid t2
      have K3 := Lib.hid t3
      have K4 := Lib.hid t4
      have K5 := Lib.hid t5
      clear t1 t2 t3 t4 t5 t6 t7
      obtain ⟨c0, c1', c2'⟩ := cells3 K4.out
      have g0 := K4.out.frz 0
      have g1 := K4.out.frz 1
      have g2 := K4.out.frz 2
      go_upto_region 24 with fail
      have U9 := Lib.hid (((Upd.set w6 y 0 (.slice none 0 0)).trans (Upd.set _ y 1 (.slice none 0 0))).trans (Upd.set _ y 2 (.int .i64 D)))
      have Y9 := Lib.hid ((((K4.out.set 0 (.slice none 0 0)).set 1 (.slice none 0 0)).set 2 (.int .i64 D)).congr (rowL [.slice none 0 0, .slice none 0 0, .int .i64 D]) fun j hj => by
        match j, hj with
        | 0, _ => rfl
        | 1, _ => rfl
        | 2, _ => rfl)
      obtain ⟨wt, hwt⟩ : ∃ wt, ((w6.setCell ⟨y, 0, none⟩ (.slice none 0 0)).setCell ⟨y, 1, none⟩ (.slice none 0 0)).setCell ⟨y, 2, none⟩ (.int .i64 D) = wt := ⟨_, rfl⟩
      rw [hwt] at U9 Y9 ⊢
      clear hwt c0 c1' c2' g0 g1 g2
      obtain ⟨F', S', D', b1, d1, b2, d2, hT, hM, hI, hD⟩ : ∃ (F' S' : List Mv) (D' : Int) (b1 : Option Addr) (d1 : Nat) (b2 : Option Addr) (d2 : Nat), TwQ C w y g F' S' D' (.slice b1 F'.length d1) (.slice b2 S'.length d2) wt ∧ (∀ m ∈ F' ++ S', MsgOf w m.2 m.1) ∧ InvQ ⟨F'.map Prod.fst, S'.map Prod.fst, D'⟩ ∧ D' ≤ (i : Int) + 1 :=
        ⟨[], [], D, none, 0, none, 0, (twd_put K1.out K2.out K3.out K4.out K5.out (grow_nil _ _ _ _ _ _ _) (grow_nil _ _ _ _ _ _ _) (Below.refl _ _) U9.out Y9.out).meet rfl, (fun m hm => by cases hm), inv_clearQ HIN.out, by have := HDI.out; omega⟩
      have HTT := Lib.hid hT
      have HMT := Lib.hid hM
      have HIT := Lib.hid hI
      have HDT := Lib.hid hD
      clear hT hM hI hD
      have HBT := Lib.hid HTT.out.below
      obtain ⟨fn, hfn⟩ : ∃ fn, F'.length = fn := ⟨_, rfl⟩
      obtain ⟨sn, hsn⟩ : ∃ sn, S'.length = sn := ⟨_, rfl⟩
      have l1' := HIT.out.l1
      have l2' := HIT.out.l2
      dsimp only at l1' l2'
      rw [List.length_map] at l1' l2'
      have fb : (fn : Int) ≤ 64 := by omega
      have sb' : (sn : Int) ≤ 64 := by omega
      have f0' : (0 : Int) ≤ (fn : Int) := by omega
      have s0' : (0 : Int) ≤ (sn : Int) := by omega
      have HLN := Lib.hid (fun wx (hb : Below wt.heap.size wt wx) => show Calls Try.prog 16 #[.pointer (some ⟨g, 0, none⟩)] wx fun e w' => e = .returned (.tuple #[.int .i64 (fn : Int), .int .i64 (sn : Int)]) ∧ Below wx.heap.size wx w' from by
        have := qu_lanes C (HTT.out.on hb).qx HIT.out
        dsimp only at this
        rw [List.length_map, List.length_map, hfn, hsn] at this
        exact this)
      have HLE := Lib.hid (fun wx (hb : Below wt.heap.size wt wx) => show Calls Try.prog 17 #[.pointer (some ⟨g, 0, none⟩)] wx fun e w' => e = .returned (.int .i64 ((fn : Int) + (sn : Int))) ∧ Below wx.heap.size wx w' from by
        have := qu_len C (HTT.out.on hb).qx HIT.out
        dsimp only at this
        rw [List.length_map, List.length_map, hfn, hsn, Int.natCast_add] at this
        exact this)
      have HDR := Lib.hid (fun wx (hb : Below wt.heap.size wt wx) => show Calls Try.prog 18 #[.pointer (some ⟨g, 0, none⟩)] wx fun e w' => e = .returned (.int .i64 D') ∧ Below wx.heap.size wx w' from qu_dropped C (HTT.out.on hb).qx HIT.out)
      have HCT := Lib.hid (fun (wx : World) (hb : Below wt.heap.size wt wx) => show wx.cell? ⟨y, 0, none⟩ = some (.slice b1 fn d1) ∧ wx.cell? ⟨y, 1, none⟩ = some (.slice b2 sn d2) ∧ wx.cell? ⟨y, 2, none⟩ = some (.int .i64 D') from by
        have := cells3 (HTT.out.on hb).box
        rwa [hfn, hsn] at this)
      have ew : IntKind.i64.wrap ((fn : Int) + (sn : Int)) = (fn : Int) + (sn : Int) := by rw [IntKind.wrap_i64]; omega
      clear hfn hsn l1' l2'
      go_wp2_with fail
      refine (HLN.out wt (Below.refl _ _)).mono ?_
      rintro e wu ⟨rfl, hbu⟩
      have BU := Lib.hid hbu
      clear hbu
      go_upto_region 25 with fail
      refine plan_abs (fun wx => Below wt.heap.size wt wx) [(true, 0), (true, 1), (true, 2), (true, 3), (true, 4), (true, 5), (true, 6), (true, 7), (true, 8), (true, 9), (true, 10), (true, 11), (true, 12), (true, 13), (true, 15), (true, 16), (true, 17), (false, 14), (true, 18), (true, 19), (true, 20), (true, 21), (true, 23), (true, 24), (false, 22), (true, 25), (true, 26)] (by kernel_rfl) (by kernel_rfl) (fun _ _ d _ _ h => by cases d <;> exact h) fun wv hsv => ⟨BU.out.trans ((hsv.below wu.heap.size).mono BU.out.size), ?_⟩
      have BV := Lib.hid (BU.out.trans ((hsv.below wu.heap.size).mono BU.out.size))
      clear hsv
      iterate 17 (first | (refine pl_off _ rfl rfl ?_; simp only [Act.put, List.setIfInBounds_toArray, List.set_cons_zero, List.set_cons_succ, List.getElem_toArray, List.getElem_cons_zero, List.getElem_cons_succ]) | (refine pl_run _ ?_ rfl rfl ?_ ?_; rotate_left; (focus (intro w' hS; obtain ⟨q0, q1, q2⟩ := HCT.out w' hS; go_simp; exact rfl)); simp only [Act.put, List.setIfInBounds_toArray, List.set_cons_zero, List.set_cons_succ, List.getElem_toArray, List.getElem_cons_zero, List.getElem_cons_succ]))
      refine pl_call1 (R := fun w' => Below wv.heap.size wv w') _ rfl rfl (by go_simp) (HLE.out wv BV.out) (fun w' hb => BV.out.trans (hb.mono BV.out.size)) fun wx hbx => ?_
      have BX := Lib.hid (BV.out.trans (hbx.mono BV.out.size))
      clear hbx
      simp only [Act.put, List.setIfInBounds_toArray, List.set_cons_zero, List.set_cons_succ, List.getElem_toArray, List.getElem_cons_zero, List.getElem_cons_succ]
      iterate 6 (first | (refine pl_off _ rfl rfl ?_; simp only [Act.put, List.setIfInBounds_toArray, List.set_cons_zero, List.set_cons_succ, List.getElem_toArray, List.getElem_cons_zero, List.getElem_cons_succ]) | (refine pl_run _ ?_ rfl rfl ?_ ?_; rotate_left; (focus (intro w' hS; obtain ⟨q0, q1, q2⟩ := HCT.out w' hS; go_simp; exact rfl)); simp only [Act.put, List.setIfInBounds_toArray, List.set_cons_zero, List.set_cons_succ, List.getElem_toArray, List.getElem_cons_zero, List.getElem_cons_succ]))
      refine pl_call1 (R := fun w' => Below wx.heap.size wx w') _ rfl rfl (by go_simp) (HDR.out wx BX.out) (fun w' hb => BX.out.trans (hb.mono BX.out.size)) fun wz hbz => ?_
      have BZ := Lib.hid (BX.out.trans (hbz.mono BX.out.size))
      clear hbz
      simp only [Act.put, List.setIfInBounds_toArray, List.set_cons_zero, List.set_cons_succ, List.getElem_toArray, List.getElem_cons_zero, List.getElem_cons_succ]
      iterate 2 (first | (refine pl_off _ rfl rfl ?_; simp only [Act.put, List.setIfInBounds_toArray, List.set_cons_zero, List.set_cons_succ, List.getElem_toArray, List.getElem_cons_zero, List.getElem_cons_succ]) | (refine pl_run _ ?_ rfl rfl ?_ ?_; rotate_left; (focus (intro w' hS; obtain ⟨q0, q1, q2⟩ := HCT.out w' hS; go_simp; exact rfl)); simp only [Act.put, List.setIfInBounds_toArray, List.set_cons_zero, List.set_cons_succ, List.getElem_toArray, List.getElem_cons_zero, List.getElem_cons_succ]))
      refine pl_end ?_
      go_wp2_with fail
      go_roundw
      case rel => exact ⟨i + 1, F', S', D', _, _, HLT.out, by go_num, HTT.out.on BZ.out, HMT.out, HIT.out, by have := HDT.out; push_cast; omega⟩
      case measure => have := HLT.out; simp [intOf]; omega
end Go.Proofs.Ytphlpgdbngbplaa
end
section
open Go Go.RowKit
namespace Go.Proofs.Ytphlpgdbngbplaa
open QU WW BB
theorem lawBqu (a b : Nat) (w : World) (ha : a < 256) (hb : b < 256) : Calls Try.prog 4 #[.int .u8 (a : Int), .int .u8 (b : Int)] w fun e w' => e = .returned (.bool true) ∧ Below w.heap.size w w' := lawB17 theCode17 a b w ha hb
theorem lawYqu (b : ByteArray) (w : World) : Calls Try.prog 5 #[.string b] w fun e w' => e = .returned (.bool true) ∧ Below w.heap.size w w' := lawY17 theCode17 b w
theorem lawPqu (L : List Op17) (v : Value) (w : World) (hv : OpsM w v L) (hm : MemOps L) : Calls Try.prog 3 #[v] w fun e w' => e = .returned (.bool true) ∧ Below w.heap.size w w' := lawP17 theCode17 L v w hv hm
end Go.Proofs.Ytphlpgdbngbplaa
end
