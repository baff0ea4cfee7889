/-
  The walk of the law of paths.
-/
import Derived.Test.YtegkhhegapnkpaaDoorKGExt
import Derived.Test.YtegkhhegapnkpaaDoorKGRev
import Derived.Test.YtegkhhegapnkpaaDoorKERefS
import Derived.Test.YtegkhhegapnkpaaDoorKFMiss
import Derived.Maps.AppendAt
import Derived.Test.YtegkhhegapnkpaaDoorKRRef
import Derived.Test.YtegkhhegapnkpaaDoorKGLawU
section
open Go Go.RowKit
namespace FF
open WW BB
/-- the way to a block, cell by cell -/
theorem path_hit {F : Fo} {a b : ByteArray} {pre : List ByteArray} (h : pre ++ [a] <+: ancF F b) (hn : ∀ y ∈ pre, y ≠ a) : pathF F a b = some pre.reverse := by
  obtain ⟨r, hr⟩ := h
  have hl : pre.length < (ancF F b).length := by rw [← hr]; simp
  unfold pathF
  have h1 : ∀ j, j < pre.length → (ancF F b).getD j ⟨#[]⟩ ≠ a := by
    intro j hj
    rw [← hr, List.getD_eq_getElem?_getD, List.append_assoc, List.getElem?_append_left hj, List.getElem?_eq_getElem hj]
    exact hn _ (List.getElem_mem hj)
  have h2 : (ancF F b).getD pre.length ⟨#[]⟩ = a := by
    rw [← hr, List.getD_eq_getElem?_getD, List.append_assoc, List.getElem?_append_right (Nat.le_refl _)]
    simp
  rw [find_hit pre.length hl h1 h2]
  show some ((ancF F b).take pre.length).reverse = _
  rw [← hr, List.append_assoc, List.take_left]
theorem path_miss {F : Fo} {a b : ByteArray} (h : ∀ y ∈ ancF F b, y ≠ a) : pathF F a b = none := by
  cases hp : pathF F a b with
  | none => rfl
  | some l => have := path_no h; rw [hp] at this; cases this
end FF
namespace Go.Proofs.YtegkhhegapnkpaaDoor
open FF JJ CC MM WW BB
attribute [local go_sem] Oper.semAt_some
theorem ginfo_str : (Tryd.prog.info? 9).map (fun i => (i.zero, i.size, i.bytes)) = some (some (.string ⟨#[]⟩), 1, 16) := by kernel_rfl
theorem own_sl {w : World} {base n : Nat} {e : TypeId} {v : Value} {xs : List Value} (h : w.ownsRow base e 1 v n xs) : ∃ a c, v = .slice a n c := by
  rcases h.2 with ⟨h1, h2⟩ | ⟨q, cap, cur, h1, _⟩
  · exact ⟨none, 0, by rw [h1, h2]⟩
  · exact ⟨_, _, h1⟩
theorem own_base {w : World} {base n : Nat} {e : TypeId} {v : Value} {xs : List Value} (h : w.ownsRow base e 1 v n xs) {j : Nat} (hj : v.ownBlock = some j) : base ≤ j := by
  rcases h.2 with ⟨rfl, _⟩ | ⟨q, cap, cur, rfl, h1, _⟩
  · cases hj
  · obtain rfl : q = j := by simpa [Value.ownBlock] using hj
    exact h1
theorem own_cells {w : World} {base n : Nat} {e : TypeId} {v : Value} {xs : List Value} (h : w.ownsRow base e 1 v n xs) {j : Nat} {o : Obj} (hj : v.ownBlock = some j) (ho : w.heap[j]? = some o) : o.isCells = true := by
  rcases h.2 with ⟨rfl, _⟩ | ⟨q, cap, cur, rfl, h1, h2, _⟩
  · cases hj
  · obtain rfl : q = j := by simpa [Value.ownBlock] using hj
    rw [h2] at ho; cases ho; rfl
theorem ne_row {w : World} {base n : Nat} {e : TypeId} {v : Value} {xs : List Value} (h : w.ownsRow base e 1 v n xs) {b : Nat} (hb : b < base) : some b ≠ v.ownBlock := fun e => by
  have := own_base h e.symm; omega
/-- what Path hands back -/
def PathP (F : Fo) (a b : ByteArray) (w : World) (e : Ending) (w' : World) : Prop :=
  ∃ u, e = .returned (.tuple #[u, .bool (pathF F a b).isSome]) ∧ StrsAt w' u ((pathF F a b).getD []) ∧ Below w.heap.size w w'
set_option maxRecDepth 100000 in
set_option maxHeartbeats 2000000 in
theorem gpath_any {B : Nat} {w : World} {g : Nat} {F : Fo} {rt : ByteArray} {mv ov : Value} {N O : List Iv} {C : Nat → Prop} (hC : CFs B w g F rt mv ov N O C) (hT : Tabs w) (from_ to_ : ByteArray) (hs : to_.size ≤ 1000000) :
    Calls Tryd.prog 33 #[.pointer (some ⟨g, 0, none⟩), .string from_, .string to_] w (PathP F from_ to_ w) := by
  have HC := Lib.hid hC
  have HT := Lib.hid hT
  have HS := Lib.hid hs
  have HAL := Lib.hid (Nat.le_trans (anc_len F to_) (Nat.add_le_add_right hC.wf.n400 1))
  clear hC hT hs
  obtain ⟨i0, hi, hz0, hz1, hz2⟩ := info_parts ginfo_str
  refine (callsIn_wide (n := 3)).1 ?_
  refine callsIn_of_wp_marks Tryd.func33 rfl trivial ?_ rfl
  simp only [Tryd.ntmps33, List.size_toArray, List.length_cons, List.length_nil, Nat.reduceAdd, Nat.reduceSub, Array.replicate_succ, Array.replicate_zero, List.push_toArray, List.append_toArray, List.nil_append, List.cons_append]
  gi_wp2_with fail
  refine ⟨trivial, ?_⟩
  refine (callsIn_wide.2 (gancs_any _ _ _)).mono ?_
  rintro e w' ⟨rfl, rfl⟩
  gi_wp2_with fail
  obtain ⟨X0, hX0⟩ : ∃ X0, (((w.alloc (.cells #[.string from_] 9)).alloc (.cells #[.slice none 0 0] 44)).alloc (.cells #[.bool false] 4)).alloc (.cells #[.slice none 0 0] 44) = X0 := ⟨_, rfl⟩
  have hx0 : X0.heap.size = w.heap.size + 1 + 1 + 1 + 1 := by rw [← hX0]; simp
  have b0 : Boxed X0 w.heap.size 9 (.string from_) := by rw [← hX0]; exact (((Boxed.new w 9 (.string from_)).alloc _).alloc _).alloc _
  have b1 : Boxed X0 (w.heap.size + 1) 44 (.slice none 0 0) := by rw [← hX0]; have := Boxed.new (w.alloc (.cells #[.string from_] 9)) 44 (.slice none 0 0); rw [World.size_alloc] at this; exact (this.alloc _).alloc _
  have b2 : Boxed X0 (w.heap.size + 1 + 1) 4 (.bool false) := by rw [← hX0]; have := Boxed.new ((w.alloc (.cells #[.string from_] 9)).alloc (.cells #[.slice none 0 0] 44)) 4 (.bool false); simp only [World.size_alloc] at this; exact this.alloc _
  have b3 : Boxed X0 (w.heap.size + 1 + 1 + 1) 44 (.slice none 0 0) := by rw [← hX0]; have := Boxed.new (((w.alloc (.cells #[.string from_] 9)).alloc (.cells #[.slice none 0 0] 44)).alloc (.cells #[.bool false] 4)) 44 (.slice none 0 0); simp only [World.size_alloc] at this; exact this
  have hb0 : Below w.heap.size w X0 := by rw [← hX0]; exact ((((Below.refl _ w).alloc (Nat.le_refl _) _).alloc (by simp) _).alloc (by simp; omega) _).alloc (by simp; omega) _
  rw [hX0]
  clear hX0
  have HSZ0 := Lib.hid hx0
  have bF := Boxed.new X0 40 (.pointer (some ⟨g, 0, none⟩))
  have bH := Boxed.new (X0.alloc (.cells #[.pointer (some ⟨g, 0, none⟩)] 40)) 9 (.string to_)
  rw [World.size_alloc] at bH
  rw [hx0] at bF bH
  have H0 := Lib.hid ((b0.alloc (.cells #[.pointer (some ⟨g, 0, none⟩)] 40)).alloc (.cells #[.string to_] 9))
  have H1 := Lib.hid ((b1.alloc (.cells #[.pointer (some ⟨g, 0, none⟩)] 40)).alloc (.cells #[.string to_] 9))
  have H2 := Lib.hid ((b2.alloc (.cells #[.pointer (some ⟨g, 0, none⟩)] 40)).alloc (.cells #[.string to_] 9))
  have H3 := Lib.hid ((b3.alloc (.cells #[.pointer (some ⟨g, 0, none⟩)] 40)).alloc (.cells #[.string to_] 9))
  have HFB := Lib.hid (bF.alloc (.cells #[.string to_] 9))
  have HHB := Lib.hid bH
  have HB0 := Lib.hid ((hb0.alloc (by rw [hx0]; omega) (.cells #[.pointer (some ⟨g, 0, none⟩)] 40)).alloc (by simp; omega) (.cells #[.string to_] 9))
  have HSZ := Lib.hid (show ((X0.alloc (.cells #[.pointer (some ⟨g, 0, none⟩)] 40)).alloc (.cells #[.string to_] 9)).heap.size = w.heap.size + 1 + 1 + 1 + 1 + 1 + 1 by simp [hx0])
  clear b0 b1 b2 b3 bF bH hb0
  clear hx0
  generalize (X0.alloc (.cells #[.pointer (some ⟨g, 0, none⟩)] 40)).alloc (.cells #[.string to_] 9) = w1 at H0 H1 H2 H3 HFB HHB HB0 HSZ ⊢
  refine wpIn_rangeFunc_ownF (F := Fence.wide) (n := 3) rfl (by omega) (gf := 138) (lb := #[.pointer (some ⟨w.heap.size + 1 + 1 + 1 + 1 + 1, 0, none⟩), .pointer (some ⟨w.heap.size + 1 + 1 + 1 + 1, 0, none⟩)]) rfl trivial (enters_of Tryd.func138 (by kernel_rfl) rfl)
    (ganc_stops HC.out HT.out to_ HS.out (3 - 1) (by omega) w1 HB0.out _ _ HHB.out.cell HFB.out.cell) kpB_t (kpB_b (by rw [HSZ.out]; omega) (by rw [HSZ.out]; omega)) (Below.refl _ _) (fun _ => rfl)
    (fun pre W => (((∀ y ∈ pre, y ≠ from_) ∧ Boxed W w.heap.size 9 (.string from_) ∧ Boxed W (w.heap.size + 1) 44 (.slice none 0 0) ∧ Boxed W (w.heap.size + 1 + 1) 4 (.bool false) ∧ Boxed W (w.heap.size + 1 + 1 + 1 + 1) 40 (.pointer (some ⟨g, 0, none⟩))) ∧
      (∃ v, Boxed W (w.heap.size + 1 + 1 + 1) 44 v ∧ W.ownsRow (w.heap.size + 1) 9 1 v pre.length (pre.map Value.string) ∧ True)) ∧ Below w.heap.size w W)
    (fun c pre W => ((c = .ret ∧ pre = pre.dropLast ++ [from_] ∧ (∀ y ∈ pre.dropLast, y ≠ from_) ∧ Boxed W (w.heap.size + 1 + 1) 4 (.bool true)) ∧
      (∃ v, Boxed W (w.heap.size + 1) 44 v ∧ W.ownsRow (w.heap.size + 1) 9 1 v pre.dropLast.length (pre.dropLast.reverse.map Value.string) ∧ True)) ∧ Below w.heap.size w W)
    (OwnFrom.and (OwnFrom.and (Own.from (fun s A B row hs hg hr => ⟨hs.1, boxed_kept hs.2.1 hg hr, boxed_kept hs.2.2.1 hg hr, boxed_kept hs.2.2.2.1 hg hr, boxed_kept hs.2.2.2.2 hg hr⟩) _) (Own.from (holdsRow_own _ _ _ _ _ (fun pre : List ByteArray => pre.length) (fun pre => pre.map Value.string) (fun _ _ => True)) _)) (ownFrom_below (Nat.le_refl _) (by rw [HSZ.out]; omega)))
    (fun c => OwnFrom.and (OwnFrom.and (Own.from (fun s A B row hs hg hr => ⟨hs.1, hs.2.1, hs.2.2.1, boxed_kept hs.2.2.2 hg hr⟩) _) (Own.from (holdsRow_own _ _ _ _ _ (fun pre : List ByteArray => pre.dropLast.length) (fun pre => pre.dropLast.reverse.map Value.string) (fun _ _ => True)) _)) (ownFrom_below (Nat.le_refl _) (by rw [HSZ.out]; omega)))
    ⟨⟨⟨by simp, H0.out, H1.out, H2.out, HFB.out⟩, _, H3.out, World.ownsRow_nil _ _ _ _, trivial⟩, HB0.out⟩
    (fun x => { tmps := #[.pointer (some ⟨g, 0, none⟩), .string from_, .string to_, undef, .pointer (some ⟨w.heap.size, 0, none⟩), undef, .pointer (some ⟨w.heap.size + 1, 0, none⟩), .pointer (some ⟨w.heap.size + 1 + 1, 0, none⟩), .pointer (some ⟨w.heap.size + 1 + 1 + 1, 0, none⟩), .string x, .pointer (some ⟨g, 0, none⟩), .string to_, .func (.func 138) #[] #[.pointer (some ⟨w.heap.size + 1 + 1 + 1 + 1 + 1, 0, none⟩), .pointer (some ⟨w.heap.size + 1 + 1 + 1 + 1, 0, none⟩)], .string x, undef, undef, undef, undef, undef, undef, undef, undef, undef, undef], defers := [] }) ?assign ?body ?done ?stop
  case assign =>
    intro l x W K hK
    gi_wp2
    exact hK
  case body =>
    rintro l pre x W ⟨⟨⟨hp, b0, b1, b2, bF⟩, v, hv, hrow, -⟩, hB⟩ hlt
    have HP := Lib.hid hp
    have B0 := Lib.hid b0
    have B1 := Lib.hid b1
    have B2 := Lib.hid b2
    have BF := Lib.hid bF
    have BV := Lib.hid hv
    have ROW := Lib.hid hrow
    have HB := Lib.hid hB
    have HL0 := Lib.hid (show w.heap.size + 1 ≤ W.heap.size from b0.lt)
    have HPL := Lib.hid (show pre.length ≤ 401 by have := HAL.out; omega)
    obtain ⟨va, vc, rfl⟩ := own_sl hrow
    have c0 := b0.cell
    have cv := hv.cell
    have f3 := hv.frozen
    clear hp b0 b1 b2 bF hv hrow hB hlt
    by_cases he : x = from_
    · subst he
      have t1 : (x.toList == x.toList) = true := by simp
      clear f3
      gi_wp2_with (refine ⟨trivial, ?_⟩; gi_at_call 97; refine (CallsIn.inRound l (callsIn_wide.2 (rev_own pre _ (w.heap.size + 1) W ROW.out (by have := HPL.out; omega)))).mono ?_; rintro e w2 ⟨rfl, hrow2, hg2⟩; have ROW2 := Lib.hid hrow2; have HG2 := Lib.hid hg2; have B12 := Lib.hid (B1.out.kept hg2 (B1.out.not_row (by decide) ROW.out)); have B22 := Lib.hid (B2.out.kept hg2 (B2.out.not_row (by decide) ROW.out)); have cv2 := (BV.out.kept hg2 (BV.out.not_row (by decide) ROW.out)).cell; have f1 := B12.out.frozen; have f2 := B22.out.frozen; have c1 := B12.out.cell; have c2 := B22.out.cell; clear hrow2 hg2)
      have R3 := ROW2.out.kept (grownBy_setCell' w2 (w.heap.size + 1) (.slice va pre.length vc)) (.inr (B12.out.not_row (by decide) ROW2.out).symm)
      have B23 := B22.out.other (B' := w.heap.size + 1) (by omega) (.slice va pre.length vc)
      have R4 := R3.kept (grownBy_setCell' _ (w.heap.size + 1 + 1) (.bool true)) (.inr (B23.not_row (by decide) R3).symm)
      refine ⟨((KeepsOthers.of_grownBy HG2.out fun j o ej hj => own_cells ROW.out ej hj).trans (KeepsOthers.setCell _ _ _)).trans (KeepsOthers.setCell _ _ _), ⟨⟨rfl, by simp, by simpa using HP.out, B23.set _⟩, _, (B12.out.set _).other (by omega) _, ?_, trivial⟩,
        ((HB.out.grown HG2.out HB.out.size fun j e => Nat.le_trans (Nat.le_succ _) (own_base ROW.out e)).setCell (p := ⟨w.heap.size + 1, 0, none⟩) (by simp) _).setCell (p := ⟨w.heap.size + 1 + 1, 0, none⟩) (by simp; omega) _⟩
      rw [List.dropLast_concat]; exact R4
    · have t1 := ba_beq he
      have HE := Lib.hid he
      have hm1 : pre.length + 1 ≤ maxLen := by have := HPL.out; unfold maxLen; omega
      have HM2 := Lib.hid (show (pre.length + 1) * 16 ≤ 140737488355328 by have := HPL.out; omega)
      clear he
      gi_wp2_with (gi_at_builtin; refine wpListIn_append_own _ rfl _ _ 44 rfl (w.heap.size + 1) 9 i0 (.string ⟨#[]⟩) 1 16 Tryd.underlying44 hi hz0 hz1 hz2 rfl (by decide) _ _ _ rfl (ROW.out.alloc _) ⟨W.heap.size, 0, none⟩ 1 1 [.string x] rfl rfl (cell_one_new _ _ _) (by simp [Value.oneCell']) hm1 HM2.out (by have := HL0.out; simp; omega) ?_; intro v' w2 hown' hgrow _; obtain ⟨g', cap', rfl⟩ := ownsRow_succ hown'; obtain ⟨hv1, hv2, hr2, hk2, hb2⟩ := BV.out.appended (by decide) ROW.out HL0.out (by omega) hown' hgrow; have HGR := Lib.hid hgrow; have HV1 := Lib.hid hv1; have HV2 := Lib.hid hv2; have HR2 := Lib.hid hr2; have HK2 := Lib.hid hk2; have HB2 := Lib.hid hb2; have hc1 := hv1.cell; have hf1 := hv1.frozen; clear hown' hgrow hv1 hv2 hr2 hk2 hb2)
      have BF2 := ((BF.out.alloc (.cells #[.string x] 9)).kept HGR.out (BF.out.not_row (by decide) ROW.out)).other (B' := w.heap.size + 1 + 1 + 1) (by omega) (.slice (some ⟨g', 0, none⟩) (pre.length + 1) cap')
      refine ⟨HK2.out, ⟨HB2.out.mono (Nat.le_succ _), (show _ = _ from BF2).trans (show _ = _ from BF.out).symm⟩, ⟨⟨fun y hy => (List.mem_append.1 hy).elim (HP.out y) (fun e e' => by simp at e; subst e; exact HE.out e'), ((B0.out.alloc _).kept HGR.out (ne_row ROW.out (Nat.lt_succ_self _))).other (by omega) _, ((B1.out.alloc _).kept HGR.out (B1.out.not_row (by decide) ROW.out)).other (by omega) _, ((B2.out.alloc _).kept HGR.out (B2.out.not_row (by decide) ROW.out)).other (by omega) _, BF2⟩, _, HV2.out, ?_, trivial⟩, HB.out.trans (HB2.out.mono (Nat.le_succ _))⟩
      rw [List.length_append, List.map_append]; exact HR2.out
  case done =>
    rintro D ys W hD rfl ⟨⟨⟨hne, _, b1, b2, _⟩, _⟩, hB⟩ hK
    have c1 := b1.cell
    have f1 := b1.frozen
    have c2 := b2.cell
    have f2 := b2.frozen
    have B1 := Lib.hid b1
    have B2 := Lib.hid b2
    clear b1 b2
    gi_wp2
    have hK' := ((KeepsOthers.setCell W ⟨w.heap.size + 1, 0, none⟩ (.slice none 0 0)).trans (KeepsOthers.setCell _ ⟨w.heap.size + 1 + 1, 0, none⟩ (.bool false))).same D _ hK rfl
    refine ⟨by simp, .inl ⟨_, _, rfl, run_takeDeferred hK', ?_⟩⟩
    have hc1 := (boxed_kept ((B1.out.set (.slice none 0 0)).other (B' := w.heap.size + 1 + 1) (by omega) (.bool false)) (grownBy_putObj' _ D (.deferred none)) (fun r e => by cases e; exact ⟨_, hK', rfl⟩)).cell
    have hc2 := (boxed_kept ((B2.out.other (B' := w.heap.size + 1) (by omega) (.slice none 0 0)).set (.bool false)) (grownBy_putObj' _ D (.deferred none)) (fun r e => by cases e; exact ⟨_, hK', rfl⟩)).cell
    refine ⟨.tuple #[.slice none 0 0, .bool false], ?_, .slice none 0 0, by rw [path_miss hne]; rfl, by rw [path_miss hne]; exact ⟨none, 0, rfl, Or.inl rfl⟩,
      ((hB.setCell (p := ⟨w.heap.size + 1, 0, none⟩) (by simp) _).setCell (p := ⟨w.heap.size + 1 + 1, 0, none⟩) (by simp; omega) _).trans (belowK_b (w := w1) (by rw [HSZ.out]; omega) _ D _ _ hD hK' rfl rfl)⟩
    simp [results, Tryd.results33, go_sem, hc1, hc2]
  case stop =>
    rintro D c pre W hD hpre ⟨⟨⟨rfl, hlast, hne, b2⟩, v, b1, hrow, -⟩, hB⟩ hK
    gi_wp2
    refine ⟨by simp, .inl ⟨_, _, rfl, run_takeDeferred hK, ?_⟩⟩
    obtain ⟨va, vc, rfl⟩ := own_sl hrow
    generalize hq : pre.dropLast = q at hlast hne hrow
    subst hlast
    have hc1 := (boxed_kept b1 (grownBy_putObj' _ D (.deferred none)) (fun r e => by cases e; exact ⟨_, hK, rfl⟩)).cell
    have hc2 := (boxed_kept b2 (grownBy_putObj' _ D (.deferred none)) (fun r e => by cases e; exact ⟨_, hK, rfl⟩)).cell
    rw [hq] at hc1
    have hph := path_hit hpre hne
    refine ⟨.tuple #[.slice va q.length vc, .bool true], ?_, .slice va q.length vc, by rw [hph]; rfl, ?_, hB.trans (belowK_b (w := w1) (by rw [HSZ.out]; omega) W D _ _ hD hK rfl rfl)⟩
    · simp [results, Tryd.results33, go_sem, hc1, hc2]
    · rw [hph]
      have hr9 := ownsRow_putObj hrow (.deferred none) hK rfl
      show StrsAt _ _ q.reverse
      exact strs_own (by rw [List.length_reverse]; exact hr9)
end Go.Proofs.YtegkhhegapnkpaaDoor
end
section
open Go Go.RowKit
namespace FF
open WW BB
theorem play_wf (l : List BlockD) : WF (playF l) ∧ (playF l).height = 0 ∧ (playF l).root = CC.firstD := by
  have key : ∀ (l : List BlockD) (F : Fo), WF F → WF (l.foldl (fun F b => (putF F (digI b, b)).1) F) ∧ (l.foldl (fun F b => (putF F (digI b, b)).1) F).height = F.height ∧ (l.foldl (fun F b => (putF F (digI b, b)).1) F).root = F.root := by
    intro l
    induction l with
    | nil => exact fun F h => ⟨h, rfl, rfl⟩
    | cons b r ih =>
      intro F h
      obtain ⟨h1, h2, h3⟩ := ih _ (put_wf h (x := (digI b, b)) (dig_size b))
      obtain ⟨e1, e2⟩ := put_root F (digI b, b)
      exact ⟨h1, h2.trans e2, h3.trans e1⟩
  exact key l _ (new_wf _ CC.firstD_size)
/-- a block's digest, or the root's -/
def frF (F : Fo) (bs : List BlockD) (m a : Nat) : ByteArray := if 0 < a then digI (bs.getD (a % m) bd0) else F.root
theorem fr_size {F : Fo} (hF : WF F) {bs : List BlockD} {m a : Nat} : (frF F bs m a).size = 32 := by
  unfold frF; split
  · exact dig_size _
  · exact hF.root32
theorem none4 {F : Fo} (hF : WF F) : hasF F ⟨#[110, 111, 110, 101]⟩ = false := by
  cases h : hasF F ⟨#[110, 111, 110, 101]⟩ with
  | false => rfl
  | true =>
    rcases (has_iff F _).1 h with e | ⟨x, hx, e⟩
    · have := hF.root32; rw [← e] at this; cases this
    · have := hF.d32 x (List.mem_append_left _ hx); rw [e] at this; cases this
theorem path_len (F : Fo) (a b : ByteArray) : ((pathF F a b).getD []).length ≤ F.nodes.length + 1 := by
  have := anc_len F b
  unfold pathF
  split
  · simp only [Option.getD_some, List.length_reverse, List.length_take]; omega
  · exact Nat.zero_le _
end FF
namespace Go.Proofs.YtegkhhegapnkpaaDoor
open FF JJ CC MM WW BB
set_option maxRecDepth 100000 in
set_option maxHeartbeats 8000000 in
theorem lawP_any (l : List (Nat × Nat × Nat)) (lv : Value) (a b : Nat) (w : World) (hv : TriAt w lv l) (hsm : ∀ i, (l.getD i (0, 0, 0)).1 < 256 ∧ (l.getD i (0, 0, 0)).2.1 < 256 ∧ (l.getD i (0, 0, 0)).2.2 < 256) (ha : a < 256) (hb : b < 256) (hT : Tabs w) :
    Calls Tryd.prog 6 #[lv, .agg #[.int .u8 (a : Int), .int .u8 (b : Int)]] w fun e w' => e = .returned (.bool true) ∧ Below w.heap.size w w' := by
  have HT := Lib.hid hT
  have HV := Lib.hid hv
  have HSM := Lib.hid hsm
  have HA := Lib.hid ha
  have HB := Lib.hid hb
  obtain ⟨la0, lc0, rfl, _⟩ := hv
  have X0 := Lib.hid ((Below.refl w.heap.size w).alloc (Nat.le_refl _) (.cells #[.int .u8 (a : Int), .int .u8 (b : Int)] 64))
  have L0 := Lib.hid (show Blk (w.alloc (.cells #[.int .u8 (a : Int), .int .u8 (b : Int)] 64)) w.heap.size 2 (rowL [.int .u8 (a : Int), .int .u8 (b : Int)]) from Blk.new' rfl rfl)
  obtain ⟨q, hq⟩ : ∃ q, w.heap.size = q := ⟨_, rfl⟩
  have HQ := Lib.hid hq
  clear hT hsm ha hb
  by_cases h30 : l.length ≤ 30 ∧ 0 < l.length
  · obtain ⟨h30, h0⟩ := h30
    have t1 : decide ((30 : Int) < (l.length : Int)) = false := decide_eq_false (by omega)
    have t2 : ((l.length : Int) == 0) = false := by rw [beq_eq_false_iff_ne]; omega
    have H30 := Lib.hid h30
    have HL := Lib.hid (show l.length ≤ 1000000 by omega)
    have H0 := Lib.hid h0
    clear h30 h0
    go_enter Tryd.func6, Tryd.ntmps6
    go_wp2_with fail
    refine (gawake_any _ (tabs_on HT.out X0.out)).mono ?_
    rintro e w1 ⟨rfl, hb1⟩
    have X1 := Lib.hid (X0.out.trans (hb1.mono X0.out.size))
    have L1 := Lib.hid (L0.out.below hb1 L0.out.lt)
    clear hb1
    go_wp2_with fail
    refine (chain_any l _ w1 (HV.out.later X1.out) HSM.out HL.out).mono ?_
    rintro e w2 ⟨u, rfl, L, hmap, hbv, hb2⟩
    have HM0 := Lib.hid hmap
    rw [show min l.length 40 = l.length by have := H30.out; omega] at hmap
    have HMAP := Lib.hid hmap
    have HLN := Lib.hid (show L.length = l.length by have := congrArg List.length hmap; rwa [List.length_map, chain_len] at this)
    have HBV := Lib.hid hbv
    have X2 := Lib.hid (X1.out.trans (hb2.mono X1.out.size))
    have L2 := Lib.hid (L1.out.below hb2 L1.out.lt)
    have HT2 := Lib.hid (tabs_on HT.out X2.out)
    obtain ⟨la, lc, rfl⟩ := bv_shape hbv
    clear hmap hbv hb2 HM0
    clear t1 t2
    go_wp2_with fail
    refine (gnew_any w2.heap.size w2 (Nat.le_refl _)).mono ?_
    rintro e w3 ⟨rfl, hc3, hb3⟩
    have HC3 := Lib.hid hc3
    have X3 := Lib.hid hb3
    clear hc3 hb3
    go_wp2_with fail
    refine (fnew_any w3).mono ?_
    rintro e w4 ⟨rfl, hb4⟩
    have X4 := Lib.hid hb4
    clear hb4
    go_wp2_with fail
    obtain ⟨r, hr⟩ : ∃ r, w4.heap.size = r := ⟨_, rfl⟩
    have S5 := Lib.hid (show TwSt w2 w2.heap.size w4.heap.size (playF ((L.map Prod.fst).take 0)) (playF ((L.map Prod.fst).take 0)) (w4.alloc (.cells #[.string firstD, .int .i64 0, .slice none 0 0, .slice none 0 0] 54)) from by
      have hc4 := HC3.out.on X4.out
      have ha : Below w4.heap.size w4 (w4.alloc (.cells #[.string firstD, .int .i64 0, .slice none 0 0, .slice none 0 0] 54)) := (Below.refl _ _).alloc (Nat.le_refl _) _
      have hl4 : w2.heap.size < w4.heap.size := Nat.lt_of_lt_of_le HC3.out.blk.lt X4.out.size
      have hb4 := X3.out.trans (X4.out.mono X3.out.size)
      exact ⟨⟨_, _, _, _, _, _, _, _, _, _, _, _, ⟨hc4.on ha, fun c hc => by rcases hc with rfl | hc | hc | hc <;> first | omega | cases hc | exact hc.elim, Blk.new' rfl rfl, ⟨[], [], rfl, rfl, fun _ _ => ⟨iv_nil _ _ _, iv_nil _ _ _⟩⟩, new_wf _ firstD_size, by omega, tabs_on (tabs_on HT2.out hb4) ha⟩⟩, hb4.trans (ha.mono (by omega))⟩)
    obtain ⟨g, hg⟩ : ∃ g, w2.heap.size = g := ⟨_, rfl⟩
    rw [hr, hg] at S5
    rw [hr, hg]
    clear hr hg
    obtain ⟨bs, hbs⟩ : ∃ bs, L.map Prod.fst = bs := ⟨_, rfl⟩
    have HBL := Lib.hid (show ∀ j, j < l.length → (L.getD j vb0).1 = bs.getD j bd0 from fun j hj => by rw [← hbs, bmap_getD L j (by have := HLN.out; omega)])
    have HSB := Lib.hid (show ∀ j, SmallI (bs.getD j bd0) from fun j => by
      rw [← hbs, HMAP.out]
      by_cases hj : j < (chainL l l.length).length
      · rw [getD_at hj]; exact (chain_small l l.length _ (List.getElem_mem hj)).1
      · rw [List.getD_eq_getElem?_getD, List.getElem?_eq_none (by omega)]; exact small_bd0)
    have HBN := Lib.hid (show bs.length = l.length by rw [← hbs, List.length_map]; exact HLN.out)
    rw [hbs] at S5
    have HPLW := Lib.hid (show ∀ i, WF (playF (bs.take i)) ∧ (playF (bs.take i)).height = 0 ∧ (playF (bs.take i)).root = firstD from fun i => play_wf _)
    clear hbs
    go_loopw [8] (fun y wx => ∃ i : Nat, i ≤ l.length ∧ y = .int .i64 (i : Int) ∧ TwSt w2 g r (playF (bs.take i)) (playF (bs.take i)) wx) (fun y _ => l.length - (intOf y).toNat)
    case atStart => exact ⟨0, Nat.zero_le _, rfl, S5.out⟩
    case round =>
      obtain ⟨i, hi, rfl, hst⟩ := hrel
      have i0 : (0 : Int) ≤ (i : Int) := by omega
      have ib : (i : Int) ≤ 30 := by have := H30.out; omega
      by_cases hlt : i < l.length
      · have hlt' : (i : Int) < (L.length : Int) := by rw [HLN.out]; omega
        have HLT := Lib.hid hlt
        obtain ⟨⟨rt, mv, ov, N, O, C, na, nn, nc, oa, ow, oc, hM⟩, hbz⟩ := hst
        have HM := Lib.hid hM
        have HBZ := Lib.hid hbz
        obtain ⟨F, hF⟩ : ∃ F, playF (bs.take i) = F := ⟨_, rfl⟩
        obtain ⟨R, hR⟩ : ∃ R, putF F (digI (bs.getD i bd0), bs.getD i bd0) = R := ⟨_, rfl⟩
        have HF := Lib.hid hF
        have HR := Lib.hid hR
        have HF1 := Lib.hid (show playF (bs.take (i + 1)) = R.1 by rw [play_snoc bs i (by rw [HBN.out]; exact hlt), hF, ← hR]; rfl)
        have HFP := Lib.hid (hF ▸ HPLW.out i)
        have HWR := Lib.hid (show WF R.1 by rw [← HF1.out]; exact (HPLW.out _).1)
        rw [hF] at HM
        obtain ⟨lb, loff, rfl, _, _, hat⟩ := bv_at HBV.out 0 (by rw [HLN.out]; omega)
        have HAT := Lib.hid hat
        obtain ⟨P, hP⟩ : ∃ P, L.getD i vb0 = P := ⟨_, rfl⟩
        have HPB := Lib.hid (show P.1 = bs.getD i bd0 by rw [← hP]; exact HBL.out i hlt)
        have HSP := Lib.hid (show SmallI P.1 by rw [HPB.out]; exact HSB.out i)
        have HRP := Lib.hid (show putF F (digI P.1, P.1) = R by rw [HPB.out]; exact hR)
        obtain ⟨pv, hpv⟩ : ∃ pv, viewI P.1 = pv := ⟨_, rfl⟩
        obtain ⟨pp, hpp⟩ : ∃ pp, propI P.1 = pp := ⟨_, rfl⟩
        obtain ⟨pj, hpj⟩ : ∃ pj, jvI P.1 = pj := ⟨_, rfl⟩
        obtain ⟨pk, hpk⟩ : ∃ pk, parI P.1 = pk := ⟨_, rfl⟩
        obtain ⟨ps, hps⟩ : ∃ ps, P.2.1 = ps := ⟨_, rfl⟩
        obtain ⟨pr, hpr⟩ : ∃ pr, P.2.2 = pr := ⟨_, rfl⟩
        have HA0 := Lib.hid (show ∀ wr, Below w2.heap.size w2 wr → wr.cell? ⟨lb, loff + i * 6, none⟩ = some (.int .i64 pv) ∧ wr.cell? ⟨lb, loff + i * 6 + 1, none⟩ = some (.int .i64 pp) ∧ wr.cell? ⟨lb, loff + i * 6 + 2, none⟩ = some (.int .i64 pj) ∧
            wr.cell? ⟨lb, loff + i * 6 + 3, none⟩ = some (.string pk) ∧ wr.cell? ⟨lb, loff + i * 6 + 4, none⟩ = some ps ∧ wr.cell? ⟨lb, loff + i * 6 + 5, none⟩ = some pr ∧ SigsAt wr ps (sigsI P.1) ∧ ReqsAt wr pr P.1.2 from fun wr hb => by
          have h := HAT.out wr hb i (by rw [HLN.out]; exact HLT.out)
          rw [hP, hpv, hpp, hpj, hpk] at h
          subst hps hpr
          exact h)
        have HPE := Lib.hid (show viewI P.1 = pv ∧ propI P.1 = pp ∧ jvI P.1 = pj ∧ parI P.1 = pk from ⟨hpv, hpp, hpj, hpk⟩)
        clear hi hlt hM hbz hF hR hat hP hpv hpp hpj hpk hps hpr
        go_upto_region 8 with fail
        go_cut [9, 10] from 40 to 48 (fun s9 _ wx => ∃ y, s9 = .pointer (some ⟨y, 0, none⟩) ∧ TwX w2 g r y F F R.1 wx)
        case first =>
          have HS := Lib.hid (fun (wx : World) (hb : Below wr.heap.size wr wx) => show wx.cell? ⟨r, 0, none⟩ = some (.string F.root) ∧ wx.cell? ⟨r, 1, none⟩ = some (.int .i64 F.height) ∧ wx.cell? ⟨r, 2, none⟩ = some (.slice na nn nc) ∧ wx.cell? ⟨r, 3, none⟩ = some (.slice oa ow oc) ∧ True from by
            have L := HM.out.blk.below hb HM.out.blk.lt
            exact ⟨L.get 0 (by omega), L.get 1 (by omega), L.get 2 (by omega), L.get 3 (by omega), trivial⟩)
          have HCA := Lib.hid (show FoD (fun b => AwayP g r mv ov C b ∧ b < wr.heap.size) wr F _ _ from HM.out.fo.cut)
          have HDE := Lib.hid (fun (wx : World) (hb : Below wr.heap.size wr wx) => show Dep (fun b => AwayP g r mv ov C b ∧ b < wr.heap.size) wx (fun w' => SigsAt w' ps (sigsI P.1) ∧ ReqsAt w' pr P.1.2) from fun w' hk => by
            have h9 := HBZ.out.trans (hb.mono HBZ.out.size)
            have := HA0.out w' (h9.trans (hk.low (HM.out.low HBZ.out) h9.size))
            exact ⟨this.2.2.2.2.2.2.1, this.2.2.2.2.2.2.2⟩)
          go_wp2_with fail
          refine crossE_abs (fun wx => Below wr.heap.size wr wx) 11 [0, 1, 2, 3, 4] 5 9 [(true, 6), (true, 7), (true, 8), (false, 9), (false, 10), (false, 11)] [(false, 5), (true, 6), (true, 7), (true, 8), (false, 10), (false, 11)] (by kernel_rfl) (by kernel_rfl) (fun _ _ d _ _ h => by cases d <;> exact h) fun w5 hs5 => ⟨hs5.below _, ?_⟩
          have Y5 := Lib.hid (show Below wr.heap.size wr w5 from hs5.below _)
          clear hs5
          have hia : (0 : Int) ≤ (i : Int) := by omega
          iterate 5 (refine pre_run _ ?_ rfl rfl ?_ ?_; rotate_left; (focus (intro w' hS; obtain ⟨d0, d1, d2, d3, d4⟩ := HS.out w' hS; obtain ⟨c0, c1, c2, c3, c4, c5, c6⟩ := HA0.out w' (HBZ.out.trans (hS.mono HBZ.out.size)); go_simp; exact rfl)); simp only [Act.put, List.setIfInBounds_toArray, List.set_cons_zero, List.set_cons_succ, List.getElem_toArray, List.getElem_cons_zero, List.getElem_cons_succ])
          refine pre_end ⟨?_, ?_⟩
          · refine pe_call (R := RputP (fun b => AwayP g r mv ov C b ∧ b < wr.heap.size) w5 R) _ rfl rfl (by go_simp) (tw_rput (HCA.out.on (Keeps.of Y5.out)) HFP.out.1 P.1 HSP.out R HRP.out pv pp pj pk HPE.out.1 HPE.out.2.1 HPE.out.2.2.1 HPE.out.2.2.2 ps pr (HDE.out _ Y5.out)) (fun u w' h => by obtain ⟨_, _, _, _, _, _, _, _, h⟩ := h; exact Y5.out.trans (h.mono Y5.out.size)) fun u w6 hr => ?_
            obtain ⟨na', nn', nc', oa', ow', oc', rfl, hfo, hb⟩ := hr
            have Y6 := Lib.hid (Y5.out.trans (hb.mono Y5.out.size))
            have HFO := Lib.hid hfo
            have YN := Lib.hid (show wr.heap.size ≤ w5.heap.size from Y5.out.size)
            have Y56 := Lib.hid hb.size
            clear hb hfo
            simp only [Act.put, List.setIfInBounds_toArray, List.set_cons_zero, List.set_cons_succ, List.getElem_toArray, List.getElem_cons_zero, List.getElem_cons_succ]
            iterate 3 (refine pe_run _ ?_ rfl rfl ?_ ?_; rotate_left; (focus (intro w' hS; go_simp; exact rfl)); simp only [Act.put, List.setIfInBounds_toArray, List.set_cons_zero, List.set_cons_succ, List.getElem_toArray, List.getElem_cons_zero, List.getElem_cons_succ])
            have BA := Lib.hid ((Below.refl w6.heap.size w6).alloc (Nat.le_refl _) (.cells #[.string ⟨#[]⟩, .int .i64 0, .slice none 0 0, .slice none 0 0] 54))
            have Y7 := Lib.hid (Y6.out.trans (BA.out.mono Y6.out.size))
            obtain ⟨y, hy⟩ : ∃ y, w6.heap.size = y := ⟨_, rfl⟩
            have YL := Lib.hid (show wr.heap.size ≤ y by rw [← hy]; exact Y6.out.size)
            have XI := Lib.hid (show Blk (w6.alloc (.cells #[.string ⟨#[]⟩, .int .i64 0, .slice none 0 0, .slice none 0 0] 54)) y 4 (rowL [.string ⟨#[]⟩, .int .i64 0, .slice none 0 0, .slice none 0 0]) from Blk.new' hy.symm rfl)
            have HFO7 := Lib.hid (HFO.out.cut.on (Keeps.of BA.out))
            refine pe_value (w' := w6.alloc (.cells #[.string ⟨#[]⟩, .int .i64 0, .slice none 0 0, .slice none 0 0] 54)) _ (.pointer (some ⟨y, 0, none⟩)) rfl rfl (by rw [← hy]; go_simp) Y7.out ?_
            have YY := Lib.hid hy
            generalize w6.alloc (.cells #[.string ⟨#[]⟩, .int .i64 0, .slice none 0 0, .slice none 0 0] 54) = w7 at *
            simp only [Act.put, List.setIfInBounds_toArray, List.set_cons_zero, List.set_cons_succ, List.getElem_toArray, List.getElem_cons_zero, List.getElem_cons_succ]
            clear hy BA
            have v0 := XI.out.get 0 (by omega)
            have v1 := XI.out.get 1 (by omega)
            have v2 := XI.out.get 2 (by omega)
            have v3 := XI.out.get 3 (by omega)
            have z0 := XI.out.frz 0
            have z1 := XI.out.frz 1
            have z2 := XI.out.frz 2
            have z3 := XI.out.frz 3
            obtain ⟨xi, ui⟩ := gset4 XI.out (.string R.1.root) (.int .i64 R.1.height) (.slice na' nn' nc') (.slice oa' ow' oc')
            have XS := Lib.hid (Y7.out.trans (ui.below YL.out))
            have hfe := (HFO7.out.on (Keeps.upd ui (fun b hb => by have := hb.2; have := YY.out; omega))).more (A' := fun b => (AwayP g r mv ov C b ∧ b < wr.heap.size) ∨ w5.heap.size ≤ b) (fun b hb _ => hb.1)
            refine pe_skip _ rfl rfl (by go_simp) XS.out ?_
            simp only [Act.put, List.getElem_toArray, List.getElem_cons_zero, List.getElem_cons_succ]
            refine pe_last _ rfl ?_
            simp only [List.getElem_toArray, List.getElem_cons_zero, List.getElem_cons_succ]
            clear v0 v1 v2 v3 z0 z1 z2 z3
            have XB := Lib.hid xi
            have HFE := Lib.hid hfe
            clear xi ui hfe
            go_wp2_with fail
            go_meet
            exact ⟨y, rfl, rt, mv, ov, N, O, C, na, nn, nc, oa, ow, oc, na', nn', nc', oa', ow', oc', w5.heap.size, HM.out.on XS.out, HBZ.out.trans (XS.out.mono HBZ.out.size), XB.out, HFE.out.more (fun b hb _ => hb.imp (fun h => h.1) fun h => h), fun b hb => Nat.lt_of_lt_of_le (HM.out.code.ownL b hb) YN.out, Nat.lt_of_lt_of_le HM.out.blk.lt YN.out, by have := HM.out.blk.lt; have := YL.out; omega, HWR.out⟩
          · have BA := Lib.hid ((Below.refl w5.heap.size w5).alloc (Nat.le_refl _) (.cells #[.string ⟨#[]⟩, .int .i64 0, .slice none 0 0, .slice none 0 0] 54))
            have Y6 := Lib.hid (Y5.out.trans (BA.out.mono Y5.out.size))
            obtain ⟨y, hy⟩ : ∃ y, w5.heap.size = y := ⟨_, rfl⟩
            have YL := Lib.hid (show wr.heap.size ≤ y by rw [← hy]; exact Y5.out.size)
            have XI := Lib.hid (show Blk (w5.alloc (.cells #[.string ⟨#[]⟩, .int .i64 0, .slice none 0 0, .slice none 0 0] 54)) y 4 (rowL [.string ⟨#[]⟩, .int .i64 0, .slice none 0 0, .slice none 0 0]) from Blk.new' hy.symm rfl)
            refine pe_value (w' := w5.alloc (.cells #[.string ⟨#[]⟩, .int .i64 0, .slice none 0 0, .slice none 0 0] 54)) _ (.pointer (some ⟨y, 0, none⟩)) rfl rfl (by rw [← hy]; go_simp) Y6.out ?_
            generalize w5.alloc (.cells #[.string ⟨#[]⟩, .int .i64 0, .slice none 0 0, .slice none 0 0] 54) = w7 at *
            simp only [Act.put, List.setIfInBounds_toArray, List.set_cons_zero, List.set_cons_succ, List.getElem_toArray, List.getElem_cons_zero, List.getElem_cons_succ]
            clear hy BA
            refine pe_call (R := RputP (fun b => AwayP g r mv ov C b ∧ b < wr.heap.size) w7 R) _ rfl rfl (by go_simp) (tw_rput (HCA.out.on (Keeps.of Y6.out)) HFP.out.1 P.1 HSP.out R HRP.out pv pp pj pk HPE.out.1 HPE.out.2.1 HPE.out.2.2.1 HPE.out.2.2.2 ps pr (HDE.out _ Y6.out)) (fun u w' h => by obtain ⟨_, _, _, _, _, _, _, _, h⟩ := h; exact Y6.out.trans (h.mono Y6.out.size)) fun u w6 hr => ?_
            obtain ⟨na', nn', nc', oa', ow', oc', rfl, hfo, hb⟩ := hr
            have Y7 := Lib.hid (Y6.out.trans (hb.mono Y6.out.size))
            have HFO := Lib.hid hfo
            have YN := Lib.hid (show wr.heap.size ≤ w7.heap.size from Y6.out.size)
            have YLT := Lib.hid (show y < w7.heap.size from XI.out.lt)
            have XJ := Lib.hid (XI.out.below hb XI.out.lt)
            clear hb hfo XI
            simp only [Act.put, List.setIfInBounds_toArray, List.set_cons_zero, List.set_cons_succ, List.getElem_toArray, List.getElem_cons_zero, List.getElem_cons_succ]
            iterate 3 (refine pe_run _ ?_ rfl rfl ?_ ?_; rotate_left; (focus (intro w' hS; go_simp; exact rfl)); simp only [Act.put, List.setIfInBounds_toArray, List.set_cons_zero, List.set_cons_succ, List.getElem_toArray, List.getElem_cons_zero, List.getElem_cons_succ])
            have v0 := XJ.out.get 0 (by omega)
            have v1 := XJ.out.get 1 (by omega)
            have v2 := XJ.out.get 2 (by omega)
            have v3 := XJ.out.get 3 (by omega)
            have z0 := XJ.out.frz 0
            have z1 := XJ.out.frz 1
            have z2 := XJ.out.frz 2
            have z3 := XJ.out.frz 3
            obtain ⟨xi, ui⟩ := gset4 XJ.out (.string R.1.root) (.int .i64 R.1.height) (.slice na' nn' nc') (.slice oa' ow' oc')
            have XS := Lib.hid (Y7.out.trans (ui.below YL.out))
            have hfe := HFO.out.on (Keeps.upd ui (fun b hb => by have := YL.out; have := YLT.out; rcases hb with hb | hb; exact (by have := hb.2; omega); omega))
            refine pe_skip _ rfl rfl (by go_simp) XS.out ?_
            simp only [Act.put, List.getElem_toArray, List.getElem_cons_zero, List.getElem_cons_succ]
            refine pe_last _ rfl ?_
            simp only [List.getElem_toArray, List.getElem_cons_zero, List.getElem_cons_succ]
            clear v0 v1 v2 v3 z0 z1 z2 z3
            have XB := Lib.hid xi
            have HFE := Lib.hid hfe
            clear xi ui hfe
            go_wp2_with fail
            go_meet
            exact ⟨y, rfl, rt, mv, ov, N, O, C, na, nn, nc, oa, ow, oc, na', nn', nc', oa', ow', oc', w7.heap.size, HM.out.on XS.out, HBZ.out.trans (XS.out.mono HBZ.out.size), XB.out, HFE.out.more (fun b hb _ => hb.imp (fun h => h.1) fun h => h), fun b hb => Nat.lt_of_lt_of_le (HM.out.code.ownL b hb) YN.out, Nat.lt_of_lt_of_le HM.out.blk.lt YN.out, by have := HM.out.blk.lt; have := YL.out; omega, HWR.out⟩
        case rest =>
          obtain ⟨y, rfl, rt', mv', ov', N', O', C', ma, mn, mc, qa, qw, qc, na', nn', nc', oa', ow', oc', n', hM', hb', hy', hfo', hn', hrn', hyr, hwf⟩ := hcut
          have HM' := Lib.hid hM'
          have HB' := Lib.hid hb'
          have HFO' := Lib.hid hfo'
          have HN' := Lib.hid hn'
          have HRN' := Lib.hid hrn'
          have d0 : _ = some (Value.string R.1.root) := hy'.get 0 (by omega)
          have d1 : _ = some (Value.int .i64 R.1.height) := hy'.get 1 (by omega)
          have d2 : _ = some (Value.slice na' nn' nc') := hy'.get 2 (by omega)
          have d3 : _ = some (Value.slice oa' ow' oc') := hy'.get 3 (by omega)
          have v0 := hM'.blk.get 0 (by omega)
          have v1 := hM'.blk.get 1 (by omega)
          have v2 := hM'.blk.get 2 (by omega)
          have v3 := hM'.blk.get 3 (by omega)
          have z0 := hM'.blk.frz 0
          have z1 := hM'.blk.frz 1
          have z2 := hM'.blk.frz 2
          have z3 := hM'.blk.frz 3
          obtain ⟨xi, ui⟩ := gset4 hM'.blk (.string R.1.root) (.int .i64 R.1.height) (.slice na' nn' nc') (.slice oa' ow' oc')
          have S9 := Lib.hid (TwX.moved HM'.out HB'.out HFO'.out HN'.out HRN'.out HT2.out ui xi hwf)
          clear hM' hb' hy' hfo' hn' hrn' hyr hwf xi ui
          go_upto_region 10 with fail
          clear d0 d1 d2 d3 v0 v1 v2 v3 z0 z1 z2 z3
          obtain ⟨w9, hw9⟩ : ∃ w9, ((((wc.setCell ⟨r, 0, none⟩ (.string R.1.root)).setCell ⟨r, 1, none⟩ (.int .i64 R.1.height)).setCell ⟨r, 2, none⟩ (.slice na' nn' nc')).setCell ⟨r, 3, none⟩ (.slice oa' ow' oc')) = w9 := ⟨_, rfl⟩
          rw [hw9] at S9 ⊢
          clear hw9
          obtain ⟨c0, c1, c2, c3, c4, c5, hsi, hri⟩ := HA0.out w9 S9.out.2
          have HSI := Lib.hid (And.intro hsi hri)
          clear hsi hri
          go_wp2_with fail
          refine (tw_put S9.out HT2.out (by rw [HFP.out.2.1]; omega) P.1 HSP.out R HRP.out pv pp pj pk HPE.out.1 HPE.out.2.1 HPE.out.2.2.1 HPE.out.2.2.2 ps pr HSI.out.1 HSI.out.2).mono ?_
          rintro e w10 ⟨rfl, hs10⟩
          have S10 := Lib.hid hs10
          clear hs10 c0 c1 c2 c3 c4 c5
          go_wp2_with fail
          go_roundw
          case rel => exact ⟨i + 1, by have := HLT.out; omega, by go_num, by rw [HF1.out]; exact S10.out⟩
          case measure => have := HLT.out; simp [intOf]; omega
      · obtain rfl : i = l.length := by omega
        have hlt' : ¬ ((l.length : Nat) : Int) < (L.length : Int) := by rw [HLN.out]; omega
        obtain ⟨F, hF⟩ : ∃ F, playF bs = F := ⟨_, rfl⟩
        have HF0 := Lib.hid (show WF F ∧ F.height = 0 ∧ F.root = firstD by rw [← hF]; exact play_wf bs)
        rw [show bs.take l.length = bs by rw [← HBN.out]; exact List.take_length, hF] at hst
        have HST := Lib.hid hst
        obtain ⟨⟨rt, mv, ov, N, O, C, na, nn, nc, oa, ow, oc, hM⟩, hbz⟩ := hst
        have HM := Lib.hid hM
        have HBZ := Lib.hid hbz
        obtain ⟨m, hm⟩ : ∃ m, l.length = m := ⟨_, rfl⟩
        have H0m := Lib.hid (show 0 < m by rw [← hm]; exact H0.out)
        have HMm := Lib.hid (show L.length = m by rw [← hm]; exact HLN.out)
        have HM30 := Lib.hid (show m ≤ 30 by rw [← hm]; exact H30.out)
        have HS := Lib.hid (fun (wx : World) (hb : Below wr.heap.size wr wx) => show wx.cell? ⟨r, 0, none⟩ = some (.string F.root) ∧ wx.cell? ⟨r, 1, none⟩ = some (.int .i64 F.height) ∧ wx.cell? ⟨r, 2, none⟩ = some (.slice na nn nc) ∧ wx.cell? ⟨r, 3, none⟩ = some (.slice oa ow oc) ∧ True from by
          have L := HM.out.blk.below hb HM.out.blk.lt
          exact ⟨L.get 0 (by omega), L.get 1 (by omega), L.get 2 (by omega), L.get 3 (by omega), trivial⟩)
        have HBLm := Lib.hid (show ∀ j, j < m → (L.getD j vb0).1 = bs.getD j bd0 from fun j hj => HBL.out j (by rw [hm]; exact hj))
        have HQC := Lib.hid (fun (wx : World) (hb : Below wr.heap.size wr wx) => show wx.cell? ⟨q, 0, none⟩ = some (.int .u8 (a : Int)) ∧ wx.cell? ⟨q, 1, none⟩ = some (.int .u8 (b : Int)) from by
          rw [← HQ.out]
          have L := L2.out.below (HBZ.out.trans (hb.mono HBZ.out.size)) L2.out.lt
          exact ⟨L.get 0 (by omega), L.get 1 (by omega)⟩)
        obtain ⟨lb, loff, rfl, _, _, hat⟩ := bv_at HBV.out 0 (by rw [HMm.out]; exact H0m.out)
        have HAT := Lib.hid hat
        rw [hm, HMm.out]
        rw [hm] at hlt'
        rw [HMm.out] at hlt'
        clear hi hlt hF hM hbz hat hm
        go_upto_region 11 with fail
        clear hlt'
        refine plan_abs (fun wx => Below wr.heap.size wr wx) [(true, 0), (true, 1), (true, 2), (true, 3), (true, 4), (true, 5)] (by kernel_rfl) (by kernel_rfl) (fun _ _ d _ _ h => by cases d <;> exact h) fun w5 hs5 => ⟨hs5.below _, ?_⟩
        have Y5 := Lib.hid (show Below wr.heap.size wr w5 from hs5.below _)
        clear hs5
        iterate 6 (refine pl_run _ ?_ rfl rfl ?_ ?_; rotate_left; (focus (intro w' hS; obtain ⟨d0, d1, d2, d3, d4⟩ := HS.out w' hS; go_simp; exact rfl)); simp only [Act.put, List.setIfInBounds_toArray, List.set_cons_zero, List.set_cons_succ, List.getElem_toArray, List.getElem_cons_zero, List.getElem_cons_succ])
        refine pl_end ?_
        obtain ⟨q0, q1⟩ := HQC.out w5 Y5.out
        go_upto_if 62 with fail
        go_cut [11] from 62 to 72 (fun s wx => s = .string (frF F bs m a) ∧ Below wr.heap.size wr wx)
        case first =>
          by_cases h0 : 0 < a
          · have h0' : (0 : Int) < (a : Int) := by omega
            have HFR := Lib.hid (show frF F bs m a = digI (bs.getD (a % m) bd0) from if_pos h0)
            obtain ⟨k, hk⟩ : ∃ k, a % m = k := ⟨_, rfl⟩
            have hkm : k < m := hk ▸ Nat.mod_lt _ H0m.out
            have HKM := Lib.hid hkm
            have e1 : ((a : Nat) : Int).tmod (m : Int) = (k : Int) := by rw [Int.tmod_eq_emod_of_nonneg (by omega), ← hk]; simp
            have e2 : IntKind.i64.wrap (a : Int) = (a : Int) := by rw [IntKind.wrap_i64]; have := HA.out; omega
            have e3 : (k : Int) < (m : Int) := by omega
            have e4 : (0 : Int) < (m : Int) := by omega
            have e5 : IntKind.i64.wrap (k : Int) = (k : Int) := by rw [IntKind.wrap_i64]; have := HM30.out; omega
            rw [hk] at HFR
            obtain ⟨P, hP⟩ : ∃ P, L.getD k vb0 = P := ⟨_, rfl⟩
            have HPB := Lib.hid (show P.1 = bs.getD k bd0 by rw [← hP]; exact HBLm.out k hkm)
            have HSP := Lib.hid (show SmallI P.1 by rw [HPB.out]; exact HSB.out k)
            obtain ⟨pv, hpv⟩ : ∃ pv, viewI P.1 = pv := ⟨_, rfl⟩
            obtain ⟨pp, hpp⟩ : ∃ pp, propI P.1 = pp := ⟨_, rfl⟩
            obtain ⟨pj, hpj⟩ : ∃ pj, jvI P.1 = pj := ⟨_, rfl⟩
            obtain ⟨pk, hpk⟩ : ∃ pk, parI P.1 = pk := ⟨_, rfl⟩
            obtain ⟨ps, hps⟩ : ∃ ps, P.2.1 = ps := ⟨_, rfl⟩
            obtain ⟨pr, hpr⟩ : ∃ pr, P.2.2 = pr := ⟨_, rfl⟩
            obtain ⟨c0, c1, c2, c3, c4, c5, hin⟩ := HAT.out _ (HBZ.out.trans (Y5.out.mono HBZ.out.size)) k (by rw [HMm.out]; exact hkm)
            rw [hP, hpv] at c0
            rw [hP, hpp] at c1
            rw [hP, hpj] at c2
            rw [hP, hpk] at c3
            rw [hP, hps] at c4
            rw [hP, hpr] at c5
            rw [hP] at hin
            have HDG := Lib.hid (fu_dig P.1 HSP.out (frF F bs m a) (by rw [HPB.out, HFR.out]) _ pv pp pj pk hpv hpp hpj hpk ps pr (hps ▸ hin.1) (hpr ▸ hin.2))
            clear h0 hk hkm hP hpv hpp hpj hpk hps hpr hin
            go_wp2_with fail
            refine HDG.out.mono ?_
            rintro e wy ⟨rfl, hby⟩
            have HBY := Lib.hid (Y5.out.trans (hby.mono Y5.out.size))
            clear hby
            go_wp2_with fail
            go_meet
            exact ⟨rfl, HBY.out⟩
          · have h0' : ¬ (0 : Int) < (a : Int) := by omega
            have HFR := Lib.hid (show frF F bs m a = F.root from if_neg h0)
            clear h0
            go_wp2_with fail
            go_meet
            exact ⟨by rw [HFR.out], Y5.out⟩
        case rest =>
          obtain ⟨rfl, hbx⟩ := hcut
          have Y6 := Lib.hid hbx
          clear hbx q0 q1
          obtain ⟨q0, q1⟩ := HQC.out _ Y6.out
          go_upto_if 75 with fail
          go_cut [12] from 75 to 85 (fun s wx => s = .string (frF F bs m b) ∧ Below wr.heap.size wr wx)
          case first =>
            by_cases h0 : 0 < b
            · have h0' : (0 : Int) < (b : Int) := by omega
              have HFR := Lib.hid (show frF F bs m b = digI (bs.getD (b % m) bd0) from if_pos h0)
              obtain ⟨k, hk⟩ : ∃ k, b % m = k := ⟨_, rfl⟩
              have hkm : k < m := hk ▸ Nat.mod_lt _ H0m.out
              have HKM := Lib.hid hkm
              have e1 : ((b : Nat) : Int).tmod (m : Int) = (k : Int) := by rw [Int.tmod_eq_emod_of_nonneg (by omega), ← hk]; simp
              have e2 : IntKind.i64.wrap (b : Int) = (b : Int) := by rw [IntKind.wrap_i64]; have := HB.out; omega
              have e3 : (k : Int) < (m : Int) := by omega
              have e4 : (0 : Int) < (m : Int) := by omega
              have e5 : IntKind.i64.wrap (k : Int) = (k : Int) := by rw [IntKind.wrap_i64]; have := HM30.out; omega
              rw [hk] at HFR
              obtain ⟨P, hP⟩ : ∃ P, L.getD k vb0 = P := ⟨_, rfl⟩
              have HPB := Lib.hid (show P.1 = bs.getD k bd0 by rw [← hP]; exact HBLm.out k hkm)
              have HSP := Lib.hid (show SmallI P.1 by rw [HPB.out]; exact HSB.out k)
              obtain ⟨pv, hpv⟩ : ∃ pv, viewI P.1 = pv := ⟨_, rfl⟩
              obtain ⟨pp, hpp⟩ : ∃ pp, propI P.1 = pp := ⟨_, rfl⟩
              obtain ⟨pj, hpj⟩ : ∃ pj, jvI P.1 = pj := ⟨_, rfl⟩
              obtain ⟨pk, hpk⟩ : ∃ pk, parI P.1 = pk := ⟨_, rfl⟩
              obtain ⟨ps, hps⟩ : ∃ ps, P.2.1 = ps := ⟨_, rfl⟩
              obtain ⟨pr, hpr⟩ : ∃ pr, P.2.2 = pr := ⟨_, rfl⟩
              obtain ⟨c0, c1, c2, c3, c4, c5, hin⟩ := HAT.out _ (HBZ.out.trans (Y6.out.mono HBZ.out.size)) k (by rw [HMm.out]; exact hkm)
              rw [hP, hpv] at c0
              rw [hP, hpp] at c1
              rw [hP, hpj] at c2
              rw [hP, hpk] at c3
              rw [hP, hps] at c4
              rw [hP, hpr] at c5
              rw [hP] at hin
              have HDG := Lib.hid (fu_dig P.1 HSP.out (frF F bs m b) (by rw [HPB.out, HFR.out]) _ pv pp pj pk hpv hpp hpj hpk ps pr (hps ▸ hin.1) (hpr ▸ hin.2))
              clear h0 hk hkm hP hpv hpp hpj hpk hps hpr hin
              go_wp2_with fail
              refine HDG.out.mono ?_
              rintro e wy ⟨rfl, hby⟩
              have HBY := Lib.hid (Y6.out.trans (hby.mono Y6.out.size))
              clear hby
              go_wp2_with fail
              go_meet
              exact ⟨rfl, HBY.out⟩
            · have h0' : ¬ (0 : Int) < (b : Int) := by omega
              have HFR := Lib.hid (show frF F bs m b = F.root from if_neg h0)
              clear h0
              go_wp2_with fail
              go_meet
              exact ⟨by rw [HFR.out], Y6.out⟩
          case rest =>
            obtain ⟨rfl, hbx⟩ := hcut
            have Y7 := Lib.hid hbx
            clear hbx q0 q1
            obtain ⟨fr, hfr⟩ : ∃ fr, frF F bs m a = fr := ⟨_, rfl⟩
            obtain ⟨dst, hto⟩ : ∃ dst, frF F bs m b = dst := ⟨_, rfl⟩
            have HTS := Lib.hid (show dst.size ≤ 1000000 by rw [← hto, fr_size HF0.out.1]; omega)
            rw [hfr, hto]
            clear hfr hto
            obtain ⟨pl, hpl⟩ : ∃ pl, (pathF F fr dst).getD [] = pl := ⟨_, rfl⟩
            obtain ⟨bb, hbb⟩ : ∃ bb, (pathF F fr dst).isSome = bb := ⟨_, rfl⟩
            have HPL := Lib.hid hpl
            have HBB := Lib.hid hbb
            have HPN := Lib.hid (show pl.length ≤ 1000000000 by rw [← hpl]; have := path_len F fr dst; have := HF0.out.1.n400; omega)
            have t1 : (bb == bb) = true := by simp
            have HNO := Lib.hid (show hasF F ⟨#[110, 111, 110, 101]⟩ = false from none4 HF0.out.1)
            clear hpl hbb
            go_wp2_with fail
            refine (gpath_any (HM.out.code.on Y7.out) (tabs_on HM.out.tabs Y7.out) fr dst HTS.out).mono ?_
            rintro e w8 h8
            obtain ⟨u, rfl, hu, hb8⟩ := h8
            rw [HPL.out] at hu
            rw [HBB.out]
            have HU := Lib.hid hu
            obtain ⟨ua, uc, rfl⟩ := strs_shape hu
            have Y8 := Lib.hid (Y7.out.trans (hb8.mono Y7.out.size))
            clear hu hb8
            obtain ⟨d0, d1, d2, d3, d4⟩ := HS.out _ Y8.out
            go_wp2_with fail
            refine (fpath_any F fr dst _ _ w8 (HM.out.fo.now.later Y8.out) (Nat.le_trans HF0.out.1.n400 (by omega))).mono ?_
            rintro e w9 ⟨v, rfl, hv9, hb9⟩
            rw [HPL.out] at hv9
            rw [HBB.out]
            have HV9 := Lib.hid hv9
            obtain ⟨va, vc, rfl⟩ := strs_shape hv9
            have Y9 := Lib.hid (Y8.out.trans (hb9.mono Y8.out.size))
            have HU9 := Lib.hid (HU.out.later hb9)
            clear hv9 hb9 d0 d1 d2 d3 d4
            go_wp2_with fail
            refine (fsame_any pl pl _ _ w9 HU9.out HV9.out HPN.out).mono ?_
            rintro e w10 ⟨rfl, hb10⟩
            have Y10 := Lib.hid (Y9.out.trans (hb10.mono Y9.out.size))
            rw [show decide (pl = pl) = true by simp]
            clear hb10
            go_wp2_with fail
            refine (gext_any (HM.out.code.on Y10.out) (tabs_on HM.out.tabs Y10.out) dst fr HTS.out).mono ?_
            rintro e w11 ⟨rfl, hb11⟩
            rw [HBB.out]
            have Y11 := Lib.hid (Y10.out.trans (hb11.mono Y10.out.size))
            clear hb11
            go_wp2_with fail
            refine (gext_any (HM.out.code.on Y11.out) (tabs_on HM.out.tabs Y11.out) ⟨#[110, 111, 110, 101]⟩ fr (by decide)).mono ?_
            rintro e w12 ⟨rfl, hb12⟩
            rw [path_no (F := F) (a := fr) (b := ⟨#[110, 111, 110, 101]⟩) (by rw [anc_not HNO.out]; intro y hy; cases hy)]
            have Y12 := Lib.hid (Y11.out.trans (hb12.mono Y11.out.size))
            clear hb12
            go_wp2_with fail
            refine (ghas_is (HM.out.code.on Y12.out) (tabs_on HM.out.tabs Y12.out) ⟨#[110, 111, 110, 101]⟩ false HNO.out (by decide)).mono ?_
            rintro e w13 ⟨rfl, hb13⟩
            have Y13 := Lib.hid (Y12.out.trans (hb13.mono Y12.out.size))
            clear hb13
            go_wp2_with fail
            refine (gheight_any (HM.out.code.on Y13.out) (tabs_on HM.out.tabs Y13.out) ⟨#[110, 111, 110, 101]⟩ (by decide)).mono ?_
            rintro e w14 ⟨rfl, hb14⟩
            rw [height_not HNO.out]
            have Y14 := Lib.hid (Y13.out.trans (hb14.mono Y13.out.size))
            clear hb14
            go_wp2_with fail
            go_ret
            exact ⟨rfl, X2.out.trans ((HBZ.out.trans (Y14.out.mono HBZ.out.size)).mono X2.out.size)⟩
  · have HN := Lib.hid h30
    by_cases h3 : 30 < l.length
    · have t1 : decide ((30 : Int) < (l.length : Int)) = true := decide_eq_true (by omega)
      have t2 : (30 : Int) < (l.length : Int) := by omega
      clear h30 h3
      go_enter Tryd.func6, Tryd.ntmps6
      go_wp2_with fail
      refine (gawake_any _ (tabs_on HT.out X0.out)).mono ?_
      rintro e w1 ⟨rfl, hb1⟩
      have X1 := Lib.hid (X0.out.trans (hb1.mono X0.out.size))
      clear hb1
      go_wp2_with fail
      refine (gawake_any _ (tabs_on HT.out X1.out)).mono ?_
      rintro e w2 ⟨rfl, hb2⟩
      have X2 := Lib.hid (X1.out.trans (hb2.mono X1.out.size))
      clear hb2
      go_wp2_with fail
      go_ret
      exact ⟨rfl, X2.out⟩
    · have hz : l.length = 0 := by omega
      have t1 : decide ((30 : Int) < (l.length : Int)) = false := decide_eq_false (by omega)
      have t2 : ((l.length : Int) == 0) = true := by rw [beq_iff_eq]; omega
      clear h30 h3 hz
      go_enter Tryd.func6, Tryd.ntmps6
      go_wp2_with fail
      refine (gawake_any _ (tabs_on HT.out X0.out)).mono ?_
      rintro e w1 ⟨rfl, hb1⟩
      have X1 := Lib.hid (X0.out.trans (hb1.mono X0.out.size))
      clear hb1
      go_wp2_with fail
      refine (gawake_any _ (tabs_on HT.out X1.out)).mono ?_
      rintro e w2 ⟨rfl, hb2⟩
      have X2 := Lib.hid (X1.out.trans (hb2.mono X1.out.size))
      clear hb2
      go_wp2_with fail
      go_ret
      exact ⟨rfl, X2.out⟩
end Go.Proofs.YtegkhhegapnkpaaDoor
end
