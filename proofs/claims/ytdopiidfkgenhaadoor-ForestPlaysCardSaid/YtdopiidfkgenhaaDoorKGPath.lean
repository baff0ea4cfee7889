/-
  The walk of the code's Path.
-/
import Derived.Test.YtdopiidfkgenhaaDoorKGExt
import Derived.Test.YtdopiidfkgenhaaDoorKGRev
import Derived.Test.YtdopiidfkgenhaaDoorKERefS
import Derived.Test.YtdopiidfkgenhaaDoorKFMiss
import Derived.Maps.AppendAt
open Go Go.RowKit
namespace FF
open WW BB
/-- the way to a block, cell by cell -/
theorem path_hit {F : Fo} {a b : ByteArray} {pre : List ByteArray} (h : pre ++ [a] <+: ancF F b) (hn : ∀ y ∈ pre, y ≠ a) : pathF F a b = some pre.reverse := by
  obtain ⟨r, hr⟩ := h
  have hl : pre.length < (ancF F b).length := by rw [← hr]; simp
  unfold pathF
  have h1 : ∀ j, j < pre.length → (ancF F b).getD j ⟨#[]⟩ ≠ a := by
    intro j hj
    rw [← hr, List.getD_eq_getElem?_getD, List.append_assoc, List.getElem?_append_left hj, List.getElem?_eq_getElem hj]
    exact hn _ (List.getElem_mem hj)
  have h2 : (ancF F b).getD pre.length ⟨#[]⟩ = a := by
    rw [← hr, List.getD_eq_getElem?_getD, List.append_assoc, List.getElem?_append_right (Nat.le_refl _)]
    simp
  rw [find_hit pre.length hl h1 h2]
  show some ((ancF F b).take pre.length).reverse = _
  rw [← hr, List.append_assoc, List.take_left]
theorem path_miss {F : Fo} {a b : ByteArray} (h : ∀ y ∈ ancF F b, y ≠ a) : pathF F a b = none := by
  cases hp : pathF F a b with
  | none => rfl
  | some l => have := path_no h; rw [hp] at this; cases this
end FF
namespace Go.Proofs.YtdopiidfkgenhaaDoor
open FF JJ CC MM WW BB
attribute [local go_sem] Oper.semAt_some
theorem ginfo_str : (Tryd.prog.info? 9).map (fun i => (i.zero, i.size, i.bytes)) = some (some (.string ⟨#[]⟩), 1, 16) := by kernel_rfl
theorem own_sl {w : World} {base n : Nat} {e : TypeId} {v : Value} {xs : List Value} (h : w.ownsRow base e 1 v n xs) : ∃ a c, v = .slice a n c := by
  rcases h.2 with ⟨h1, h2⟩ | ⟨q, cap, cur, h1, _⟩
  · exact ⟨none, 0, by rw [h1, h2]⟩
  · exact ⟨_, _, h1⟩
theorem own_base {w : World} {base n : Nat} {e : TypeId} {v : Value} {xs : List Value} (h : w.ownsRow base e 1 v n xs) {j : Nat} (hj : v.ownBlock = some j) : base ≤ j := by
  rcases h.2 with ⟨rfl, _⟩ | ⟨q, cap, cur, rfl, h1, _⟩
  · cases hj
  · obtain rfl : q = j := by simpa [Value.ownBlock] using hj
    exact h1
theorem own_cells {w : World} {base n : Nat} {e : TypeId} {v : Value} {xs : List Value} (h : w.ownsRow base e 1 v n xs) {j : Nat} {o : Obj} (hj : v.ownBlock = some j) (ho : w.heap[j]? = some o) : o.isCells = true := by
  rcases h.2 with ⟨rfl, _⟩ | ⟨q, cap, cur, rfl, h1, h2, _⟩
  · cases hj
  · obtain rfl : q = j := by simpa [Value.ownBlock] using hj
    rw [h2] at ho; cases ho; rfl
theorem ne_row {w : World} {base n : Nat} {e : TypeId} {v : Value} {xs : List Value} (h : w.ownsRow base e 1 v n xs) {b : Nat} (hb : b < base) : some b ≠ v.ownBlock := fun e => by
  have := own_base h e.symm; omega
/-- what Path hands back -/
def PathP (F : Fo) (a b : ByteArray) (w : World) (e : Ending) (w' : World) : Prop :=
  ∃ u, e = .returned (.tuple #[u, .bool (pathF F a b).isSome]) ∧ StrsAt w' u ((pathF F a b).getD []) ∧ Below w.heap.size w w'
set_option maxRecDepth 100000 in
set_option maxHeartbeats 2000000 in
theorem gpath_any {B : Nat} {w : World} {g : Nat} {F : Fo} {rt : ByteArray} {mv ov : Value} {N O : List Iv} {C : Nat → Prop} (hC : CFs B w g F rt mv ov N O C) (hT : Tabs w) (from_ to_ : ByteArray) (hs : to_.size ≤ 1000000) :
    Calls Tryd.prog 21 #[.pointer (some ⟨g, 0, none⟩), .string from_, .string to_] w (PathP F from_ to_ w) := by
  have HC := Lib.hid hC
  have HT := Lib.hid hT
  have HS := Lib.hid hs
  have HAL := Lib.hid (Nat.le_trans (anc_len F to_) (Nat.add_le_add_right hC.wf.n400 1))
  clear hC hT hs
  obtain ⟨i0, hi, hz0, hz1, hz2⟩ := info_parts ginfo_str
  refine (callsIn_wide (n := 3)).1 ?_
  refine callsIn_of_wp_marks Tryd.func21 rfl trivial ?_ rfl
  simp only [Tryd.ntmps21, List.size_toArray, List.length_cons, List.length_nil, Nat.reduceAdd, Nat.reduceSub, Array.replicate_succ, Array.replicate_zero, List.push_toArray, List.append_toArray, List.nil_append, List.cons_append]
  gi_wp2_with fail
  refine ⟨trivial, ?_⟩
  refine (callsIn_wide.2 (gancs_any _ _ _)).mono ?_
  rintro e w' ⟨rfl, rfl⟩
  gi_wp2_with fail
  obtain ⟨X0, hX0⟩ : ∃ X0, (((w.alloc (.cells #[.string from_] 9)).alloc (.cells #[.slice none 0 0] 37)).alloc (.cells #[.bool false] 4)).alloc (.cells #[.slice none 0 0] 37) = X0 := ⟨_, rfl⟩
  have hx0 : X0.heap.size = w.heap.size + 1 + 1 + 1 + 1 := by rw [← hX0]; simp
  have b0 : Boxed X0 w.heap.size 9 (.string from_) := by rw [← hX0]; exact (((Boxed.new w 9 (.string from_)).alloc _).alloc _).alloc _
  have b1 : Boxed X0 (w.heap.size + 1) 37 (.slice none 0 0) := by rw [← hX0]; have := Boxed.new (w.alloc (.cells #[.string from_] 9)) 37 (.slice none 0 0); rw [World.size_alloc] at this; exact (this.alloc _).alloc _
  have b2 : Boxed X0 (w.heap.size + 1 + 1) 4 (.bool false) := by rw [← hX0]; have := Boxed.new ((w.alloc (.cells #[.string from_] 9)).alloc (.cells #[.slice none 0 0] 37)) 4 (.bool false); simp only [World.size_alloc] at this; exact this.alloc _
  have b3 : Boxed X0 (w.heap.size + 1 + 1 + 1) 37 (.slice none 0 0) := by rw [← hX0]; have := Boxed.new (((w.alloc (.cells #[.string from_] 9)).alloc (.cells #[.slice none 0 0] 37)).alloc (.cells #[.bool false] 4)) 37 (.slice none 0 0); simp only [World.size_alloc] at this; exact this
  have hb0 : Below w.heap.size w X0 := by rw [← hX0]; exact ((((Below.refl _ w).alloc (Nat.le_refl _) _).alloc (by simp) _).alloc (by simp; omega) _).alloc (by simp; omega) _
  rw [hX0]
  clear hX0
  have HSZ0 := Lib.hid hx0
  have bF := Boxed.new X0 27 (.pointer (some ⟨g, 0, none⟩))
  have bH := Boxed.new (X0.alloc (.cells #[.pointer (some ⟨g, 0, none⟩)] 27)) 9 (.string to_)
  rw [World.size_alloc] at bH
  rw [hx0] at bF bH
  have H0 := Lib.hid ((b0.alloc (.cells #[.pointer (some ⟨g, 0, none⟩)] 27)).alloc (.cells #[.string to_] 9))
  have H1 := Lib.hid ((b1.alloc (.cells #[.pointer (some ⟨g, 0, none⟩)] 27)).alloc (.cells #[.string to_] 9))
  have H2 := Lib.hid ((b2.alloc (.cells #[.pointer (some ⟨g, 0, none⟩)] 27)).alloc (.cells #[.string to_] 9))
  have H3 := Lib.hid ((b3.alloc (.cells #[.pointer (some ⟨g, 0, none⟩)] 27)).alloc (.cells #[.string to_] 9))
  have HFB := Lib.hid (bF.alloc (.cells #[.string to_] 9))
  have HHB := Lib.hid bH
  have HB0 := Lib.hid ((hb0.alloc (by rw [hx0]; omega) (.cells #[.pointer (some ⟨g, 0, none⟩)] 27)).alloc (by simp; omega) (.cells #[.string to_] 9))
  have HSZ := Lib.hid (show ((X0.alloc (.cells #[.pointer (some ⟨g, 0, none⟩)] 27)).alloc (.cells #[.string to_] 9)).heap.size = w.heap.size + 1 + 1 + 1 + 1 + 1 + 1 by simp [hx0])
  clear b0 b1 b2 b3 bF bH hb0
  clear hx0
  generalize (X0.alloc (.cells #[.pointer (some ⟨g, 0, none⟩)] 27)).alloc (.cells #[.string to_] 9) = w1 at H0 H1 H2 H3 HFB HHB HB0 HSZ ⊢
  refine wpIn_rangeFunc_ownF (F := Fence.wide) (n := 3) rfl (by omega) (gf := 68) (lb := #[.pointer (some ⟨w.heap.size + 1 + 1 + 1 + 1 + 1, 0, none⟩), .pointer (some ⟨w.heap.size + 1 + 1 + 1 + 1, 0, none⟩)]) rfl trivial (enters_of Tryd.func68 (by kernel_rfl) rfl)
    (ganc_stops HC.out HT.out to_ HS.out (3 - 1) (by omega) w1 HB0.out _ _ HHB.out.cell HFB.out.cell) kpB_t (kpB_b (by rw [HSZ.out]; omega) (by rw [HSZ.out]; omega)) (Below.refl _ _) (fun _ => rfl)
    (fun pre W => (((∀ y ∈ pre, y ≠ from_) ∧ Boxed W w.heap.size 9 (.string from_) ∧ Boxed W (w.heap.size + 1) 37 (.slice none 0 0) ∧ Boxed W (w.heap.size + 1 + 1) 4 (.bool false) ∧ Boxed W (w.heap.size + 1 + 1 + 1 + 1) 27 (.pointer (some ⟨g, 0, none⟩))) ∧
      (∃ v, Boxed W (w.heap.size + 1 + 1 + 1) 37 v ∧ W.ownsRow (w.heap.size + 1) 9 1 v pre.length (pre.map Value.string) ∧ True)) ∧ Below w.heap.size w W)
    (fun c pre W => ((c = .ret ∧ pre = pre.dropLast ++ [from_] ∧ (∀ y ∈ pre.dropLast, y ≠ from_) ∧ Boxed W (w.heap.size + 1 + 1) 4 (.bool true)) ∧
      (∃ v, Boxed W (w.heap.size + 1) 37 v ∧ W.ownsRow (w.heap.size + 1) 9 1 v pre.dropLast.length (pre.dropLast.reverse.map Value.string) ∧ True)) ∧ Below w.heap.size w W)
    (OwnFrom.and (OwnFrom.and (Own.from (fun s A B row hs hg hr => ⟨hs.1, boxed_kept hs.2.1 hg hr, boxed_kept hs.2.2.1 hg hr, boxed_kept hs.2.2.2.1 hg hr, boxed_kept hs.2.2.2.2 hg hr⟩) _) (Own.from (holdsRow_own _ _ _ _ _ (fun pre : List ByteArray => pre.length) (fun pre => pre.map Value.string) (fun _ _ => True)) _)) (ownFrom_below (Nat.le_refl _) (by rw [HSZ.out]; omega)))
    (fun c => OwnFrom.and (OwnFrom.and (Own.from (fun s A B row hs hg hr => ⟨hs.1, hs.2.1, hs.2.2.1, boxed_kept hs.2.2.2 hg hr⟩) _) (Own.from (holdsRow_own _ _ _ _ _ (fun pre : List ByteArray => pre.dropLast.length) (fun pre => pre.dropLast.reverse.map Value.string) (fun _ _ => True)) _)) (ownFrom_below (Nat.le_refl _) (by rw [HSZ.out]; omega)))
    ⟨⟨⟨by simp, H0.out, H1.out, H2.out, HFB.out⟩, _, H3.out, World.ownsRow_nil _ _ _ _, trivial⟩, HB0.out⟩
    (fun x => { tmps := #[.pointer (some ⟨g, 0, none⟩), .string from_, .string to_, undef, .pointer (some ⟨w.heap.size, 0, none⟩), undef, .pointer (some ⟨w.heap.size + 1, 0, none⟩), .pointer (some ⟨w.heap.size + 1 + 1, 0, none⟩), .pointer (some ⟨w.heap.size + 1 + 1 + 1, 0, none⟩), .string x, .pointer (some ⟨g, 0, none⟩), .string to_, .func (.func 68) #[] #[.pointer (some ⟨w.heap.size + 1 + 1 + 1 + 1 + 1, 0, none⟩), .pointer (some ⟨w.heap.size + 1 + 1 + 1 + 1, 0, none⟩)], .string x, undef, undef, undef, undef, undef, undef, undef, undef, undef, undef], defers := [] }) ?assign ?body ?done ?stop
  case assign =>
    intro l x W K hK
    gi_wp2
    exact hK
  case body =>
    rintro l pre x W ⟨⟨⟨hp, b0, b1, b2, bF⟩, v, hv, hrow, -⟩, hB⟩ hlt
    have HP := Lib.hid hp
    have B0 := Lib.hid b0
    have B1 := Lib.hid b1
    have B2 := Lib.hid b2
    have BF := Lib.hid bF
    have BV := Lib.hid hv
    have ROW := Lib.hid hrow
    have HB := Lib.hid hB
    have HL0 := Lib.hid (show w.heap.size + 1 ≤ W.heap.size from b0.lt)
    have HPL := Lib.hid (show pre.length ≤ 401 by have := HAL.out; omega)
    obtain ⟨va, vc, rfl⟩ := own_sl hrow
    have c0 := b0.cell
    have cv := hv.cell
    have f3 := hv.frozen
    clear hp b0 b1 b2 bF hv hrow hB hlt
    by_cases he : x = from_
    · subst he
      have t1 : (x.toList == x.toList) = true := by simp
      clear f3
      gi_wp2_with (refine ⟨trivial, ?_⟩; gi_at_call 47; refine (CallsIn.inRound l (callsIn_wide.2 (rev_own pre _ (w.heap.size + 1) W ROW.out (by have := HPL.out; omega)))).mono ?_; rintro e w2 ⟨rfl, hrow2, hg2⟩; have ROW2 := Lib.hid hrow2; have HG2 := Lib.hid hg2; have B12 := Lib.hid (B1.out.kept hg2 (B1.out.not_row (by decide) ROW.out)); have B22 := Lib.hid (B2.out.kept hg2 (B2.out.not_row (by decide) ROW.out)); have cv2 := (BV.out.kept hg2 (BV.out.not_row (by decide) ROW.out)).cell; have f1 := B12.out.frozen; have f2 := B22.out.frozen; have c1 := B12.out.cell; have c2 := B22.out.cell; clear hrow2 hg2)
      have R3 := ROW2.out.kept (grownBy_setCell' w2 (w.heap.size + 1) (.slice va pre.length vc)) (.inr (B12.out.not_row (by decide) ROW2.out).symm)
      have B23 := B22.out.other (B' := w.heap.size + 1) (by omega) (.slice va pre.length vc)
      have R4 := R3.kept (grownBy_setCell' _ (w.heap.size + 1 + 1) (.bool true)) (.inr (B23.not_row (by decide) R3).symm)
      refine ⟨((KeepsOthers.of_grownBy HG2.out fun j o ej hj => own_cells ROW.out ej hj).trans (KeepsOthers.setCell _ _ _)).trans (KeepsOthers.setCell _ _ _), ⟨⟨rfl, by simp, by simpa using HP.out, B23.set _⟩, _, (B12.out.set _).other (by omega) _, ?_, trivial⟩,
        ((HB.out.grown HG2.out HB.out.size fun j e => Nat.le_trans (Nat.le_succ _) (own_base ROW.out e)).setCell (p := ⟨w.heap.size + 1, 0, none⟩) (by simp) _).setCell (p := ⟨w.heap.size + 1 + 1, 0, none⟩) (by simp; omega) _⟩
      rw [List.dropLast_concat]; exact R4
    · have t1 := ba_beq he
      have HE := Lib.hid he
      have hm1 : pre.length + 1 ≤ maxLen := by have := HPL.out; unfold maxLen; omega
      have HM2 := Lib.hid (show (pre.length + 1) * 16 ≤ 140737488355328 by have := HPL.out; omega)
      clear he
      gi_wp2_with (gi_at_builtin; refine wpListIn_append_own _ rfl _ _ 37 rfl (w.heap.size + 1) 9 i0 (.string ⟨#[]⟩) 1 16 Tryd.underlying37 hi hz0 hz1 hz2 rfl (by decide) _ _ _ rfl (ROW.out.alloc _) ⟨W.heap.size, 0, none⟩ 1 1 [.string x] rfl rfl (cell_one_new _ _ _) (by simp [Value.oneCell']) hm1 HM2.out (by have := HL0.out; simp; omega) ?_; intro v' w2 hown' hgrow _; obtain ⟨g', cap', rfl⟩ := ownsRow_succ hown'; obtain ⟨hv1, hv2, hr2, hk2, hb2⟩ := BV.out.appended (by decide) ROW.out HL0.out (by omega) hown' hgrow; have HGR := Lib.hid hgrow; have HV1 := Lib.hid hv1; have HV2 := Lib.hid hv2; have HR2 := Lib.hid hr2; have HK2 := Lib.hid hk2; have HB2 := Lib.hid hb2; have hc1 := hv1.cell; have hf1 := hv1.frozen; clear hown' hgrow hv1 hv2 hr2 hk2 hb2)
      have BF2 := ((BF.out.alloc (.cells #[.string x] 9)).kept HGR.out (BF.out.not_row (by decide) ROW.out)).other (B' := w.heap.size + 1 + 1 + 1) (by omega) (.slice (some ⟨g', 0, none⟩) (pre.length + 1) cap')
      refine ⟨HK2.out, ⟨HB2.out.mono (Nat.le_succ _), (show _ = _ from BF2).trans (show _ = _ from BF.out).symm⟩, ⟨⟨fun y hy => (List.mem_append.1 hy).elim (HP.out y) (fun e e' => by simp at e; subst e; exact HE.out e'), ((B0.out.alloc _).kept HGR.out (ne_row ROW.out (Nat.lt_succ_self _))).other (by omega) _, ((B1.out.alloc _).kept HGR.out (B1.out.not_row (by decide) ROW.out)).other (by omega) _, ((B2.out.alloc _).kept HGR.out (B2.out.not_row (by decide) ROW.out)).other (by omega) _, BF2⟩, _, HV2.out, ?_, trivial⟩, HB.out.trans (HB2.out.mono (Nat.le_succ _))⟩
      rw [List.length_append, List.map_append]; exact HR2.out
  case done =>
    rintro D ys W hD rfl ⟨⟨⟨hne, _, b1, b2, _⟩, _⟩, hB⟩ hK
    have c1 := b1.cell
    have f1 := b1.frozen
    have c2 := b2.cell
    have f2 := b2.frozen
    have B1 := Lib.hid b1
    have B2 := Lib.hid b2
    clear b1 b2
    gi_wp2
    have hK' := ((KeepsOthers.setCell W ⟨w.heap.size + 1, 0, none⟩ (.slice none 0 0)).trans (KeepsOthers.setCell _ ⟨w.heap.size + 1 + 1, 0, none⟩ (.bool false))).same D _ hK rfl
    refine ⟨by simp, .inl ⟨_, _, rfl, run_takeDeferred hK', ?_⟩⟩
    have hc1 := (boxed_kept ((B1.out.set (.slice none 0 0)).other (B' := w.heap.size + 1 + 1) (by omega) (.bool false)) (grownBy_putObj' _ D (.deferred none)) (fun r e => by cases e; exact ⟨_, hK', rfl⟩)).cell
    have hc2 := (boxed_kept ((B2.out.other (B' := w.heap.size + 1) (by omega) (.slice none 0 0)).set (.bool false)) (grownBy_putObj' _ D (.deferred none)) (fun r e => by cases e; exact ⟨_, hK', rfl⟩)).cell
    refine ⟨.tuple #[.slice none 0 0, .bool false], ?_, .slice none 0 0, by rw [path_miss hne]; rfl, by rw [path_miss hne]; exact ⟨none, 0, rfl, Or.inl rfl⟩,
      ((hB.setCell (p := ⟨w.heap.size + 1, 0, none⟩) (by simp) _).setCell (p := ⟨w.heap.size + 1 + 1, 0, none⟩) (by simp; omega) _).trans (belowK_b (w := w1) (by rw [HSZ.out]; omega) _ D _ _ hD hK' rfl rfl)⟩
    simp [results, Tryd.results21, go_sem, hc1, hc2]
  case stop =>
    rintro D c pre W hD hpre ⟨⟨⟨rfl, hlast, hne, b2⟩, v, b1, hrow, -⟩, hB⟩ hK
    gi_wp2
    refine ⟨by simp, .inl ⟨_, _, rfl, run_takeDeferred hK, ?_⟩⟩
    obtain ⟨va, vc, rfl⟩ := own_sl hrow
    generalize hq : pre.dropLast = q at hlast hne hrow
    subst hlast
    have hc1 := (boxed_kept b1 (grownBy_putObj' _ D (.deferred none)) (fun r e => by cases e; exact ⟨_, hK, rfl⟩)).cell
    have hc2 := (boxed_kept b2 (grownBy_putObj' _ D (.deferred none)) (fun r e => by cases e; exact ⟨_, hK, rfl⟩)).cell
    rw [hq] at hc1
    have hph := path_hit hpre hne
    refine ⟨.tuple #[.slice va q.length vc, .bool true], ?_, .slice va q.length vc, by rw [hph]; rfl, ?_, hB.trans (belowK_b (w := w1) (by rw [HSZ.out]; omega) W D _ _ hD hK rfl rfl)⟩
    · simp [results, Tryd.results21, go_sem, hc1, hc2]
    · rw [hph]
      have hr9 := ownsRow_putObj hrow (.deferred none) hK rfl
      show StrsAt _ _ q.reverse
      exact strs_own (by rw [List.length_reverse]; exact hr9)
end Go.Proofs.YtdopiidfkgenhaaDoor
