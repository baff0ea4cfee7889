/-
  The walk of the code's Extends.
-/
import Derived.Test.YtegkhhegapnkpaaDoorKGFits
import Derived.RangeFuncNested
import Derived.RangeFuncBound
import Derived.RangeFuncCalls
import Derived.RangeFuncLeaves
import Derived.RangeFuncBox
import Derived.Shelf.Abstract
import Derived.Shelf.RegionOpen
import Derived.WalkKit
import Derived.OwnWalkIn
import Derived.TacticsInMore
import Derived.LoopNIn
import Derived.LoopIn
section
open Go Go.RowKit
namespace FF
open WW BB
/-- what comes behind a block: its parent; nothing behind the root -/
def nextF (F : Fo) (N : List Iv) (x : ByteArray) : ByteArray := ((entF F N x).getD zE).1.2.2.2
theorem none_has {F : Fo} (hF : WF F) : hasF F ⟨#[]⟩ = false := by
  cases h : hasF F ⟨#[]⟩ with
  | false => rfl
  | true =>
    rcases (has_iff F _).1 h with e | ⟨x, hx, e⟩
    · have := hF.root32; rw [← e] at this; cases this
    · have := hF.d32 x (List.mem_append_left _ hx); rw [e] at this; cases this
theorem anc_next {F : Fo} {N : List Iv} (hF : WF F) (hn : N.map Prod.fst = F.nodes) {x : ByteArray} (h : hasF F x = true) : ancF F x = x :: ancF F (nextF F N x) := by
  have a := anc_of hF h
  generalize hL : ancF F x = L at a
  cases a with
  | root =>
    have he : entF F N F.root = none := by
      cases he : entF F N F.root with
      | none => rfl
      | some s =>
        obtain ⟨z, hz, e, _⟩ := ent_of he
        exact absurd e (hF.ne z.1 (List.mem_append_left _ (by rw [← hn]; exact List.mem_map.2 ⟨z, hz, rfl⟩)))
    unfold nextF
    rw [he]
    show [F.root] = F.root :: ancF F ⟨#[]⟩
    rw [anc_not (none_has hF)]
  | step y l hy b =>
    have hs : (entF F N y.1).isSome = true := by rw [ent_some hn]; exact decide_eq_true ((at_mem _ _).2 ⟨y, hy, rfl⟩)
    cases he : entF F N y.1 with
    | none => rw [he] at hs; cases hs
    | some s =>
      obtain ⟨z, hz, e, rfl⟩ := ent_of he
      have hzy : z.1 = y := nodup_inj hF.nodup (by rw [← hn]; exact List.mem_map.2 ⟨z, hz, rfl⟩) hy e
      unfold nextF
      rw [he]
      show y.1 :: l = y.1 :: ancF F (parI z.1.2)
      rw [hzy, anc_is hF b]
/-- what a round keeps: what lay, and the receiver's box -/
def KpB (n₀ Bf : Nat) (W W' : World) : Prop := Below n₀ W W' ∧ W'.heap[Bf]? = W.heap[Bf]?
theorem kpB_t {n₀ Bf : Nat} {A B C : World} (h : KpB n₀ Bf A B) (k : KpB n₀ Bf B C) : KpB n₀ Bf A C := ⟨h.1.trans k.1, k.2.trans h.2⟩
theorem kpB_b {n₀ Bf : Nat} {w : World} (hn : n₀ ≤ w.heap.size) (hf : Bf < w.heap.size) (W : World) (l : Nat) (o o' : Obj) (hl : w.heap.size ≤ l) (h : W.heap[l]? = some o) (h1 : o.isCells = false) (h2 : o.isWalk = false) : KpB n₀ Bf W (W.putObj l o') :=
  ⟨belowK_b hn W l o o' hl h h1 h2, World.putObj_heap_other (by omega)⟩
theorem boxed_kept {W W' : World} {B : Nat} {t : TypeId} {v : Value} {row : Option Nat} (h : Boxed W B t v) (hg : W.grownBy W' row) (hr : ∀ r, row = some r → ∃ o : Obj, W.heap[r]? = some o ∧ o.isCells = false) : Boxed W' B t v := by
  refine h.kept hg fun e => ?_
  obtain ⟨o, ho, hc⟩ := hr B e.symm
  rw [show W.heap[B]? = _ from h] at ho; cases ho; cases hc
theorem path_yes {F : Fo} {a b : ByteArray} (h : a ∈ ancF F b) : (pathF F a b).isSome = true := by
  rw [path_some, List.any_eq_true]; exact ⟨a, h, by simp⟩
theorem path_no {F : Fo} {a b : ByteArray} (h : ∀ y ∈ ancF F b, y ≠ a) : (pathF F a b).isSome = false := by
  rw [path_some, List.any_eq_false]; exact fun y hy => by simpa using h y hy
def strOf : Value → ByteArray
  | .string b => b
  | _ => ⟨#[]⟩
theorem grown_of_below {w w' : World} (h : Below w.heap.size w w') : w.grownBy w' none := ⟨h.os, h.tape, h.output, h.size, fun k hk _ => h.block k hk⟩
theorem abides_below {β : Type} {n : Nat} {J : β → World → Prop} (h : AbidesFrom n J) {s : β} {w w' : World} (hs : J s w) (hb : Below w.heap.size w w') : J s w' := h s w w' none hs (grown_of_below hb) (fun r e => by cases e)
section
variable {F : Fence} {nF : Nat} {P : Program} {ops : Array Oper} {rest : List Oper} {o : Oper} {a : Act} {Q : Exit → Act → World → Prop} {k e t : TypeId} {w : World} {mv : Value} {f : ByteArray → Option Sv} {n : Nat}
theorem wpli_look (m x : Operand) (s : ByteArray) (v p j : Int) (kb : ByteArray) (a1 : Option Addr) (n1 c1 : Nat) (a2 : Option Addr) (n2 c2 : Nat) (ht' : Int) (hf : (f s).getD zE = ((v, p, j, kb), (a1, n1, c1), (a2, n2, c2), ht'))
    (hg : o.guard = none) (hop : o.op = Op.lookup t m x false) (hk : P.underlying k = some .string) (ht : P.underlying t = some (.map k e)) (hz : ∀ w, (zeroValue e).run P w = .ok (encE zE) w) (h : MapAt P k w mv f n)
    (hm : a.eval m = mv) (hx : a.eval x = .string s) (hs : s.size ≤ maxLen) (hK : wpListIn F nF P ops Q rest (a.put o.dst (.agg #[.int .i64 v, .int .i64 p, .int .i64 j, .string kb, .slice a1 n1 c1, .slice a2 n2 c2, .int .i64 ht'])) w) : wpListIn F nF P ops Q (o :: rest) a w := by
  refine wpListIn_plain hg fun K' hK' => ?_
  unfold Oper.wpIn
  refine ⟨by simp [Oper.about, hop], ?_⟩
  rw [Oper.semAt_plain F _ _ (by rw [hop]; intro c hc'; cases hc')]
  have hr := h.look false hk ht (hz w) hs
  rw [hf] at hr
  simp only [Bool.false_eq_true, if_false] at hr
  simp only [execOp, hop, hm, hx, hr, Sem.run_bind, Result.andThen_ok, Sem.run_pure]
  exact hK' _ _ hK
end
end FF
namespace Go.Proofs.YtegkhhegapnkpaaDoor
open FF JJ CC MM WW BB
theorem lt_of_cell {w : World} {b o : Nat} {v : Value} (h : w.cell? ⟨b, o, none⟩ = some v) : b < w.heap.size := by
  rcases Nat.lt_or_ge b w.heap.size with hb | hb
  · exact hb
  · unfold World.cell? at h
    rw [Array.getElem?_eq_none hb] at h
    cases h
theorem next_small {B : Nat} {w0 : World} {g : Nat} {F : Fo} {rt : ByteArray} {mv ov : Value} {N O : List Iv} {C : Nat → Prop} (hC : CFs B w0 g F rt mv ov N O C) (x : ByteArray) : (nextF F N x).size ≤ 1000000 := by
  unfold nextF
  cases he : entF F N x with
  | none => exact Nat.zero_le _
  | some s =>
    obtain ⟨z, hz, _, rfl⟩ := ent_of he
    have := (hC.small z (List.mem_append_left _ hz)).1
    show (parI z.1.2).size ≤ _
    omega
attribute [local go_sem] Oper.semAt_some
set_option maxRecDepth 100000 in
set_option maxHeartbeats 2000000 in
theorem ganc_in {B : Nat} {w0 : World} {g : Nat} {F : Fo} {rt : ByteArray} {mv ov : Value} {N O : List Iv} {C : Nat → Prop} (hC : CFs B w0 g F rt mv ov N O C) (hT : Tabs w0) (h : ByteArray) (hs : h.size ≤ 1000000) (n l Bh Bf nb : Nat) (hn : 1 ≤ n) (J Jx : List ByteArray → World → Prop)
    (hJ : AbidesFrom nb J)
    (hY : ∀ pre x W, J pre W → pre.length < (ancF F h).length → YieldAt Fence.wide (n - 1) Tryd.prog l #[.string x] W fun e W' => (e = .returned (.bool true) ∧ J (pre ++ [x]) W' ∧ KpB w0.heap.size Bf W W') ∨ (e = .returned (.bool false) ∧ Jx (pre ++ [x]) W'))
    (W : World) (hW : Below w0.heap.size w0 W) (ch : W.cell? ⟨Bh, 0, none⟩ = some (.string h)) (cf : W.cell? ⟨Bf, 0, none⟩ = some (.pointer (some ⟨g, 0, none⟩))) (hf : Bf < W.heap.size) (h0 : J [] W) :
    CallsIn Fence.wide n Tryd.prog 138 #[.func (.yield l) #[] #[], .pointer (some ⟨Bh, 0, none⟩), .pointer (some ⟨Bf, 0, none⟩)] W fun e W' => (∃ v, e = .returned v) ∧ ((∃ ys, ys = ancF F h ∧ J ys W') ∨ (∃ pre, pre <+: ancF F h ∧ Jx pre W')) := by
  have HC := Lib.hid hC
  have HT := Lib.hid hT
  have HJ := Lib.hid hJ
  have HY := Lib.hid hY
  have HW := Lib.hid hW
  have HS := Lib.hid hs
  have HF := Lib.hid hf
  have HN := Lib.hid hn
  obtain ⟨mp, rfl⟩ := hC.shapeM
  clear hC hT hJ hY hW hs hf hn
  refine callsIn_of_wp Tryd.func138 rfl trivial ?_ rfl
  simp only [Tryd.ntmps138, List.size_toArray, List.length_cons, List.length_nil, Nat.reduceAdd, Nat.reduceSub, Array.replicate_succ, Array.replicate_zero, List.push_toArray, List.append_toArray, List.nil_append, List.cons_append]
  gi_wp2
  gi_loopw [4] (fun p wr => ∃ (pre : List ByteArray) (x : ByteArray), p = .string x ∧ ancF F h = pre ++ ancF F x ∧ x.size ≤ 1000000 ∧ Below w0.heap.size w0 wr ∧ wr.cell? ⟨Bf, 0, none⟩ = some (.pointer (some ⟨g, 0, none⟩)) ∧ Bf < wr.heap.size ∧ J pre wr) (fun p _ => (ancF F (strOf p)).length)
  case atStart => exact ⟨[], h, rfl, rfl, HS.out, HW.out, cf, HF.out, h0⟩
  case round =>
    obtain ⟨pre, x, rfl, hpx, hxs, hbr, hcf, hfr, hJs⟩ := hrel
    have HPX := Lib.hid hpx
    have HXS := Lib.hid hxs
    have HBR := Lib.hid hbr
    have HFR := Lib.hid hfr
    have HJS := Lib.hid hJs
    clear hpx hxs hbr hfr hJs
    by_cases hh : hasF F x = true
    · have HH := Lib.hid hh
      have HA := Lib.hid (anc_next HC.out.wf HC.out.nodes hh)
      clear hh
      gi_wp2_with fail
      refine ⟨trivial, fun _ => HN.out, ?_⟩
      refine (callsIn_wide.2 (ghas_is (HC.out.on HBR.out) (tabs_on HT.out HBR.out) x true HH.out HXS.out)).mono ?_
      rintro e w2 ⟨rfl, hb2⟩
      have HB2 := Lib.hid hb2
      have hcf2 := (hb2.cell (p := ⟨Bf, 0, none⟩) HFR.out).trans hcf
      have HJ2 := Lib.hid (abides_below HJ.out HJS.out hb2)
      obtain ⟨fn, tmps, assign, body, hy, hR⟩ := HY.out pre x w2 HJ2.out (by rw [HPX.out, HA.out]; simp)
      have HR := Lib.hid hR
      clear hb2 hR
      gi_wp2_with fail
      refine ⟨fun _ => HN.out, HR.out.mono ?_⟩
      have HB := Lib.hid (HBR.out.trans (HB2.out.mono HBR.out.size))
      clear hy HR HB2
      rintro e w3 (⟨rfl, hJ3, hk3⟩ | ⟨rfl, hJx3⟩)
      · have HJ3 := Lib.hid hJ3
        have HB3 := Lib.hid (HB.out.trans hk3.1)
        have hcf3 : w3.cell? ⟨Bf, 0, none⟩ = some (.pointer (some ⟨g, 0, none⟩)) := (World.cell?_of_block (a := ⟨Bf, 0, none⟩) hk3.2).trans hcf2
        have hfl : Bf < w3.heap.size := lt_of_cell hcf3
        have HFL := Lib.hid hfl
        have hc2 := (HC.out.on HB3.out).c2
        obtain ⟨v, p, j, k, a1, n1, k1, a2, n2, k2, t, hx⟩ := sv_parts ((entF F N x).getD zE)
        have HX := Lib.hid hx
        have HMA := Lib.hid (HC.out.on HB3.out).map
        have HNX := Lib.hid (show nextF F N x = k by unfold nextF; rw [hx])
        have HSM := Lib.hid (show x.size ≤ maxLen by have := HXS.out; unfold maxLen; omega)
        have HKS := Lib.hid (show k.size ≤ 1000000 from HNX.out ▸ next_small HC.out x)
        have hfd : ∀ w, (Instr.field 135 (.agg #[.int .i64 v, .int .i64 p, .int .i64 j, .string k, .slice a1 n1 k1, .slice a2 n2 k2, .int .i64 t]) 0).run Tryd.prog w = .ok (.agg #[.int .i64 v, .int .i64 p, .int .i64 j, .string k, .slice a1 n1 k1, .slice a2 n2 k2]) w := fun w => by kernel_rfl
        clear hJ3 hk3 hfl hx hcf hcf2
        gi_wp2_with (gi_at_lookup; refine wpli_look _ _ x v p j k a1 n1 k1 a2 n2 k2 t HX.out rfl rfl (by kernel_rfl) (by kernel_rfl) zero_sv HMA.out rfl rfl HSM.out ?_)
        refine ⟨trivial, fun _ => HN.out, ?_⟩
        refine (callsIn_wide.2 (parent_any v p j k a1 a2 n1 k1 n2 k2 w3)).mono ?_
        rintro e w4 ⟨rfl, hb4⟩
        have HJ4 := Lib.hid (abides_below HJ.out HJ3.out hb4)
        have HB4 := Lib.hid (HB3.out.trans (hb4.mono HB3.out.size))
        have HC4 := Lib.hid ((hb4.cell (p := ⟨Bf, 0, none⟩) HFL.out).trans hcf3)
        have HF4 := Lib.hid (lt_of_cell HC4.out)
        clear hb4 hfd hcf3 hc2
        gi_wp2
        go_roundw
        case rel => exact ⟨pre ++ [x], k, rfl, by rw [HPX.out, HA.out, HNX.out]; simp, HKS.out, HB4.out, HC4.out, HF4.out, HJ4.out⟩
        case measure =>
          show (ancF F k).length < (ancF F x).length
          rw [HA.out, HNX.out]; simp
      · gi_wp2
        go_end0
        exact ⟨⟨_, rfl⟩, .inr ⟨pre ++ [x], ⟨ancF F (nextF F N x), by rw [HPX.out, HA.out]; simp⟩, hJx3⟩⟩
    · have HH := Lib.hid (show hasF F x = false by simpa using hh)
      clear hh
      gi_wp2_with fail
      refine ⟨trivial, fun _ => HN.out, ?_⟩
      refine (callsIn_wide.2 (ghas_is (HC.out.on HBR.out) (tabs_on HT.out HBR.out) x false HH.out HXS.out)).mono ?_
      rintro e w2 ⟨rfl, hb2⟩
      have HJ2 := Lib.hid (abides_below HJ.out HJS.out hb2)
      clear hb2
      gi_wp2
      refine ⟨fun _ h => (by cases h), ?_⟩
      gi_wp2
      go_end0
      exact ⟨⟨_, rfl⟩, .inl ⟨pre, by rw [HPX.out, anc_not HH.out]; simp, HJ2.out⟩⟩
set_option maxRecDepth 100000 in
set_option maxHeartbeats 1000000 in
theorem gancs_any (p0 : Option Addr) (h : ByteArray) (w : World) :
    Calls Tryd.prog 96 #[.pointer p0, .string h] w fun e w' => e = .returned (.func (.func 138) #[] #[.pointer (some ⟨w.heap.size + 1, 0, none⟩), .pointer (some ⟨w.heap.size, 0, none⟩)]) ∧ w' = (w.alloc (.cells #[.pointer p0] 40)).alloc (.cells #[.string h] 9) := by
  go_enter Tryd.func96, Tryd.ntmps96
  go_wp2_with fail
  go_ret
  exact ⟨rfl, rfl⟩
/-- the iterator keeps its contract: a block's ancestors, itself first; or some of them, where a round has said no more -/
theorem ganc_stops {B : Nat} {w0 : World} {g : Nat} {F : Fo} {rt : ByteArray} {mv ov : Value} {N O : List Iv} {C : Nat → Prop} (hC : CFs B w0 g F rt mv ov N O C) (hT : Tabs w0) (h : ByteArray) (hs : h.size ≤ 1000000) (n : Nat) (hn : 1 ≤ n) (w : World) (hw : Below w0.heap.size w0 w) (Bh Bf : Nat)
    (ch : w.cell? ⟨Bh, 0, none⟩ = some (.string h)) (cf : w.cell? ⟨Bf, 0, none⟩ = some (.pointer (some ⟨g, 0, none⟩))) :
    SeqStopsK Fence.wide n Tryd.prog 138 #[.pointer (some ⟨Bh, 0, none⟩), .pointer (some ⟨Bf, 0, none⟩)] (fun x : ByteArray => #[Value.string x]) (KpB w0.heap.size Bf) (fun ys => ys = ancF F h) (fun pre => pre <+: ancF F h) (ancF F h).length w := fun l J Jx W hW hJ _ hY h0 =>
  ganc_in hC hT h hs n l Bh Bf W.heap.size hn J Jx hJ hY W (hw.trans (hW.mono hw.size)) ((hW.cell (p := ⟨Bh, 0, none⟩) (lt_of_cell ch)).trans ch) ((hW.cell (p := ⟨Bf, 0, none⟩) (lt_of_cell cf)).trans cf) (Nat.lt_of_lt_of_le (lt_of_cell cf) hW.size) h0
end Go.Proofs.YtegkhhegapnkpaaDoor
end
section
open Go Go.RowKit
namespace Go.Proofs.YtegkhhegapnkpaaDoor
open FF JJ CC MM WW BB
attribute [local go_sem] Oper.semAt_some
set_option maxRecDepth 100000 in
set_option maxHeartbeats 2000000 in
theorem gext_any {B : Nat} {w : World} {g : Nat} {F : Fo} {rt : ByteArray} {mv ov : Value} {N O : List Iv} {C : Nat → Prop} (hC : CFs B w g F rt mv ov N O C) (hT : Tabs w) (h on : ByteArray) (hs : h.size ≤ 1000000) :
    Calls Tryd.prog 36 #[.pointer (some ⟨g, 0, none⟩), .string h, .string on] w fun e w' => e = .returned (.bool (pathF F on h).isSome) ∧ Below w.heap.size w w' := by
  have HC := Lib.hid hC
  have HT := Lib.hid hT
  have HS := Lib.hid hs
  clear hC hT hs
  refine (callsIn_wide (n := 3)).1 ?_
  refine callsIn_of_wp_marks Tryd.func36 rfl trivial ?_ rfl
  simp only [Tryd.ntmps36, List.size_toArray, List.length_cons, List.length_nil, Nat.reduceAdd, Nat.reduceSub, Array.replicate_succ, Array.replicate_zero, List.push_toArray, List.append_toArray, List.nil_append, List.cons_append]
  gi_wp2_with fail
  refine ⟨trivial, ?_⟩
  refine (callsIn_wide.2 (gancs_any _ _ _)).mono ?_
  rintro e w' ⟨rfl, rfl⟩
  gi_wp2_with fail
  have bO := Boxed.new w 9 (.string on)
  have bR := Boxed.new (w.alloc (.cells #[.string on] 9)) 4 (.bool false)
  have bF := Boxed.new ((w.alloc (.cells #[.string on] 9)).alloc (.cells #[.bool false] 4)) 40 (.pointer (some ⟨g, 0, none⟩))
  have bH := Boxed.new (((w.alloc (.cells #[.string on] 9)).alloc (.cells #[.bool false] 4)).alloc (.cells #[.pointer (some ⟨g, 0, none⟩)] 40)) 9 (.string h)
  simp only [World.size_alloc] at bR bF bH
  have hB0 : Below w.heap.size w ((((w.alloc (.cells #[.string on] 9)).alloc (.cells #[.bool false] 4)).alloc (.cells #[.pointer (some ⟨g, 0, none⟩)] 40)).alloc (.cells #[.string h] 9)) := ((((Below.refl _ w).alloc (Nat.le_refl _) _).alloc (by simp) _).alloc (by simp; omega) _).alloc (by simp; omega) _
  have HO := Lib.hid (((bO.alloc (.cells #[.bool false] 4)).alloc (.cells #[.pointer (some ⟨g, 0, none⟩)] 40)).alloc (.cells #[.string h] 9))
  have HR := Lib.hid ((bR.alloc (.cells #[.pointer (some ⟨g, 0, none⟩)] 40)).alloc (.cells #[.string h] 9))
  have HFB := Lib.hid (bF.alloc (.cells #[.string h] 9))
  have HHB := Lib.hid bH
  have HB0 := Lib.hid hB0
  clear bO bR bF bH hB0
  generalize hw1 : (((w.alloc (.cells #[.string on] 9)).alloc (.cells #[.bool false] 4)).alloc (.cells #[.pointer (some ⟨g, 0, none⟩)] 40)).alloc (.cells #[.string h] 9) = w1 at HO HR HFB HHB HB0 ⊢
  have HSZ := Lib.hid (show w1.heap.size = w.heap.size + 1 + 1 + 1 + 1 by rw [← hw1]; simp)
  clear hw1
  refine wpIn_rangeFunc_ownF (F := Fence.wide) (n := 3) rfl (by omega) (gf := 138) (lb := #[.pointer (some ⟨w.heap.size + 1 + 1 + 1, 0, none⟩), .pointer (some ⟨w.heap.size + 1 + 1, 0, none⟩)]) rfl trivial (enters_of Tryd.func138 (by kernel_rfl) rfl)
    (ganc_stops HC.out HT.out h HS.out (3 - 1) (by omega) w1 HB0.out _ _ HHB.out.cell HFB.out.cell) kpB_t (kpB_b (by rw [HSZ.out]; omega) (by rw [HSZ.out]; omega)) (Below.refl _ _) (fun _ => rfl)
    (fun pre W => ((∀ y ∈ pre, y ≠ on) ∧ Boxed W w.heap.size 9 (.string on) ∧ Boxed W (w.heap.size + 1) 4 (.bool false)) ∧ Below w.heap.size w W)
    (fun c pre W => (c = .ret ∧ on ∈ pre ∧ Boxed W (w.heap.size + 1) 4 (.bool true)) ∧ Below w.heap.size w W)
    (OwnFrom.and (Own.from (fun s A B row hs hg hr => ⟨hs.1, boxed_kept hs.2.1 hg hr, boxed_kept hs.2.2 hg hr⟩) _) (ownFrom_below (Nat.le_refl _) (by rw [HSZ.out]; omega)))
    (fun c => OwnFrom.and (Own.from (fun s A B row hs hg hr => ⟨hs.1, hs.2.1, boxed_kept hs.2.2 hg hr⟩) _) (ownFrom_below (Nat.le_refl _) (by rw [HSZ.out]; omega)))
    ⟨⟨by simp, HO.out, HR.out⟩, HB0.out⟩
    (fun x => { tmps := #[.pointer (some ⟨g, 0, none⟩), .string h, .string on, undef, undef, .pointer (some ⟨w.heap.size, 0, none⟩), .pointer (some ⟨w.heap.size + 1, 0, none⟩), .string x, .pointer (some ⟨g, 0, none⟩), .string h, .func (.func 138) #[] #[.pointer (some ⟨w.heap.size + 1 + 1 + 1, 0, none⟩), .pointer (some ⟨w.heap.size + 1 + 1, 0, none⟩)], .string x, undef, undef, undef], defers := [] }) ?assign ?body ?done ?stop
  case assign =>
    intro l x W K hK
    gi_wp2
    exact hK
  case body =>
    rintro l pre x W ⟨⟨hp, bo, br⟩, hB⟩ _
    have c0 := bo.cell
    have c1 := br.cell
    have f1 := br.frozen
    have HP := Lib.hid hp
    have BO := Lib.hid bo
    have BR := Lib.hid br
    have HB := Lib.hid hB
    clear hp bo br hB
    by_cases he : x = on
    · subst he
      have t1 : (x.toList == x.toList) = true := by simp
      gi_wp2
      exact ⟨KeepsOthers.setCell _ _ _, ⟨rfl, List.mem_append.2 (.inr (by simp)), BR.out.set _⟩, HB.out.setCell (p := ⟨w.heap.size + 1, 0, none⟩) (by simp) _⟩
    · have t1 := ba_beq he
      have HE := Lib.hid he
      clear he
      gi_wp2
      exact ⟨KeepsOthers.refl _, ⟨Below.refl _ _, rfl⟩, ⟨fun y hy => (List.mem_append.1 hy).elim (HP.out y) (fun e e' => by simp at e; subst e; exact HE.out e'), BO.out, BR.out⟩, HB.out⟩
  case done =>
    rintro D ys W hD rfl ⟨⟨hne, _, br⟩, hB⟩ hK
    have c1 := br.cell
    have f1 := br.frozen
    have BR := Lib.hid br
    clear br
    gi_wp2
    have hK' := (KeepsOthers.setCell W ⟨w.heap.size + 1, 0, none⟩ (.bool false)).same D _ hK rfl
    refine ⟨by simp, .inl ⟨_, _, rfl, run_takeDeferred hK', ?_⟩⟩
    have hc5 := (boxed_kept (BR.out.set (.bool false)) (grownBy_putObj' _ D (.deferred none)) (fun r e => by cases e; exact ⟨_, hK', rfl⟩)).cell
    refine ⟨.bool false, ?_, by rw [path_no hne], (hB.setCell (p := ⟨w.heap.size + 1, 0, none⟩) (by simp) _).trans (belowK_b (w := w1) (by rw [HSZ.out]; omega) _ D _ _ hD hK' rfl rfl)⟩
    simp [results, Tryd.results36, go_sem, hc5]
  case stop =>
    rintro D c pre W hD hpre ⟨⟨rfl, hin, br⟩, hB⟩ hK
    gi_wp2
    refine ⟨by simp, .inl ⟨_, _, rfl, run_takeDeferred hK, ?_⟩⟩
    have hc5 := (boxed_kept br (grownBy_putObj' _ D (.deferred none)) (fun r e => by cases e; exact ⟨_, hK, rfl⟩)).cell
    refine ⟨.bool true, ?_, by rw [path_yes (hpre.subset hin)], hB.trans (belowK_b (w := w1) (by rw [HSZ.out]; omega) W D _ _ hD hK rfl rfl)⟩
    simp [results, Tryd.results36, go_sem, hc5]
end Go.Proofs.YtegkhhegapnkpaaDoor
end
