/-
  The listed tables, as cells; the last step of a row whose call leaves the old memory as it was.
-/
import Derived.Test.YthajnkcipifhcaaGreatDoorKMixed
import Derived.ProofKit
import Derived.LaidMore
import Derived.OpenShut
import Derived.Lib.LaidTab
import Derived.ChangeSame
open Go Go.RowKit Go.WideShapes Go.ChangeShapes
namespace BB
section
variable {H : Type} {enc : TypeId × Value → H} {P : Program}
theorem post_of_below {f : Func} {s : ChangeSpec} {apart fresh handsOn again : Bool} {W W' : World} {args : Array Value} {v : Value} {ds gs : List (DataW H)} {before pa pv : List MemPlace}
    (hW : DataW.Whole enc P f.params.toList s.vars apart W args.toList ds gs before)
    (hres : ∀ (b : Nat) (sp : Nat → Bool) (hd : Bool), DataW.TrodAll enc P W' b sp hd f.resultTypes.toList (v.resultList f.resultTypes.size) (s.fn H (ds ++ gs)).results [])
    (hargs : ∀ sp : Nat → Bool, (∀ p ∈ before, sp p.block = true) → DataW.TrodAll enc P W' 0 sp true f.params.toList args.toList (s.fn H (ds ++ gs)).args pa)
    (hvars : ∀ sp : Nat → Bool, (∀ p ∈ before, sp p.block = true) → DataW.TrodVars enc P W' sp s.vars (s.fn H (ds ++ gs)).vars pv)
    (hps : before = pa ++ pv) (hb : Below W.heap.size W W')
    (hok : ∀ (j : Nat) (t : TypeId) (r : Value), f.resultTypes[j]? = some t → (v.resultList f.resultTypes.size)[j]? = some r → Value.okWide P W' .any 0 t r) :
    s.post enc P f apart fresh handsOn again W args v W' := by
  have hlt : ∀ p ∈ before, p.block < W.heap.size := fun p hp => hW.lt p hp
  have hold : ∀ p ∈ before, (fun b => decide (b < W.heap.size)) p.block = true := fun p hp => by simpa using hlt p hp
  refine ⟨ds, gs, before, [], pa, pv, hW, hres _ _ _, hargs _ hold, hvars _ hold, World.keptBut_mono (fun p hp => ⟨hp, ?_⟩) (hb.frame (· ∈ before)), fun _ => ?_⟩
  · rw [hps, List.mem_append] at hp
    exact Or.inr hp
  · obtain ⟨_, _, _, _, _, hz, hn⟩ := hW
    refine ⟨hok, _, _, ([] ++ pa) ++ pv, ⟨[] ++ pa, pv, trodAll_append (hargs _ (fun _ _ => rfl)) (hres _ _ _), hvars _ (fun _ _ => rfl), rfl, ?_, ?_⟩, ?_⟩
    · intro b off hp
      have hin : MemPlace.cell b off ∈ before := by rw [hps]; simpa using hp
      rw [hb.frozen (hlt _ hin)]
      exact hz b off hin
    · intro ha
      have := hn ha
      rw [hps] at this
      simpa using this
    · intro p hp _
      rw [hps]
      simpa using hp
end
open Go.Lib in
theorem nest_cells {H : Type} {enc : TypeId × Value → H} {P : Program} {w : World} {base fuel t e u n m : Nat} {sp : Nat → Bool} {held : Bool} {k : IntKind} {cs : List Value} {p : List MemPlace} (f : Nat → Nat)
    (ht : P.underlying t = some (.array n e)) (he : P.underlying e = some (.array m u)) (hu : P.underlying u = some (.int k)) (hcu : P.cellsOf u = 1) (hce : P.cellsOf e = m)
    (hd : DataW.trod enc P w base sp held fuel t cs = some (.agg ((List.range n).map fun r => tabData k ((List.range m).map fun c => (f (r * m + c) : Int))), p))
    (r c : Nat) (hr : r < n) (hc : c < m) : cs[r * m + c]? = some (.int k (f (r * m + c) : Int)) := by
  obtain ⟨xs, fu, _, hx, _, hn, hel⟩ := DataW.trod_array ht hd
  have h1 := hel r hr
  have hr' : r < xs.length := by omega
  rw [List.getElem?_eq_getElem hr'] at h1
  simp only [Prod.mk.injEq, DataW.agg.injEq] at hx
  have h2 : (xs[r]).1 = tabData k ((List.range m).map fun c => (f (r * m + c) : Int)) := by
    have := congrArg (·[r]?) hx.1
    simp [hr, List.getElem?_eq_getElem hr'] at this
    exact this.symm
  have h3 : DataW.trod enc P w base sp held fu e ((cs.drop (r * P.cellsOf e)).take (P.cellsOf e)) = some (tabData k ((List.range m).map fun c => (f (r * m + c) : Int)), (xs[r]).2) := by
    rw [h1, ← h2]
  have h4 := cells_of_tab he hu hcu hce h3
  rw [hce] at h4
  have h5 := congrArg (·[c]?) h4
  simp only [List.getElem?_take, List.getElem?_drop, List.getElem?_map, List.getElem?_range hc, Option.map_some, if_pos hc] at h5
  exact h5
end BB
namespace Go.Proofs.YthajnkcipifhcaaGreatDoor
open BB Go.Lib
def laid3 : List (String × DataW Unit) := [("comitia/blake.start", Rows.laid_comitia_blake_start), ("comitia/blake.rows", Rows.laid_comitia_blake_rows), ("comitia/blake.places", Rows.laid_comitia_blake_places)]
theorem gStart : Tryz.prog.globalNamed "comitia/blake.start" = some 0 := by kernel_rfl
theorem gRows : Tryz.prog.globalNamed "comitia/blake.rows" = some 1 := by kernel_rfl
theorem gPlaces : Tryz.prog.globalNamed "comitia/blake.places" = some 2 := by kernel_rfl
theorem tStart : (Tryz.prog.globals[0]?).map (·.type) = some 269 := by kernel_rfl
theorem tRows : (Tryz.prog.globals[1]?).map (·.type) = some 314 := by kernel_rfl
theorem tPlaces : (Tryz.prog.globals[2]?).map (·.type) = some 316 := by kernel_rfl
theorem dStart : (Rows.laid_comitia_blake_start : DataW Unit) = tabData .u32 ((List.range 8).map fun i => ((iv i).toNat : Int)) := by rfl
theorem dRows : (Rows.laid_comitia_blake_rows : DataW Unit) = .agg ((List.range 10).map fun r => tabData .u8 ((List.range 16).map fun c => (sg (r * 16 + c) : Int))) := by rfl
theorem dPlaces : (Rows.laid_comitia_blake_places : DataW Unit) = .agg ((List.range 8).map fun r => tabData .u8 ((List.range 4).map fun c => (pl (r * 4 + c) : Int))) := by rfl
theorem tabs_of_laid {W : World} (h : laidMetH Tryz.prog laid3 W) : Tabs W := by
  rw [MakeChecks.laidMetH_plain _ _ _ (by kernel_rfl)] at h
  obtain ⟨ps, ⟨g0, t0, cs0, f0, p0, q0, hg0, ht0, hv0, hd0, ⟨g1, t1, cs1, f1, p1, q1, hg1, ht1, hv1, hd1, ⟨g2, t2, cs2, f2, p2, q2, hg2, ht2, hv2, hd2, _, _⟩, _⟩, _⟩, _, _⟩ := h
  obtain rfl := Option.some.inj (gStart.symm.trans hg0)
  obtain rfl := Option.some.inj (gRows.symm.trans hg1)
  obtain rfl := Option.some.inj (gPlaces.symm.trans hg2)
  obtain rfl := Option.some.inj (tStart.symm.trans ht0)
  obtain rfl := Option.some.inj (tRows.symm.trans ht1)
  obtain rfl := Option.some.inj (tPlaces.symm.trans ht2)
  rw [dStart] at hd0
  rw [dRows] at hd1
  rw [dPlaces] at hd2
  have c0 : Cells W 0 8 (cw .u32 iv) := fun i hi => by
    have hcs := cells_of_tab (n := 8) (e := 268) (by kernel_rfl) (by kernel_rfl) (by kernel_rfl) (by kernel_rfl) hd0
    rw [World.var?_cell hg0 hv0 i, ← Array.getElem?_toList, hcs]
    simp [hi, cw]
  have c1 : Cells W 1 160 (cb sg) := fun i hi => by
    have := nest_cells (e := 313) (u := 5) sg (by kernel_rfl) (by kernel_rfl) (by kernel_rfl) (by kernel_rfl) (by kernel_rfl) hd1 (i / 16) (i % 16) (by omega) (by omega)
    rw [show i / 16 * 16 + i % 16 = i by omega] at this
    rw [World.var?_cell hg1 hv1 i, ← Array.getElem?_toList]
    exact this
  have c2 : Cells W 2 32 (cb pl) := fun i hi => by
    have := nest_cells (e := 315) (u := 5) pl (by kernel_rfl) (by kernel_rfl) (by kernel_rfl) (by kernel_rfl) (by kernel_rfl) hd2 (i / 4) (i % 4) (by omega) (by omega)
    rw [show i / 4 * 4 + i % 4 = i by omega] at this
    rw [World.var?_cell hg2 hv2 i, ← Array.getElem?_toList]
    exact this
  exact ⟨c0, c1, c2, World.block_lt_of_cell? W ⟨_, 0, none⟩ (c0 0 (by omega)), World.block_lt_of_cell? W ⟨_, 0, none⟩ (c1 0 (by omega)), World.block_lt_of_cell? W ⟨_, 0, none⟩ (c2 0 (by omega))⟩
theorem door_met (os : Os) (args : Array Value) : laidMetH Tryz.prog laid3 ((World.doorLaid Tryz.prog 42 os).forCall (fun _ _ => 0) ⟨#[], args, []⟩).memory :=
  laidMetH_of_parts3 (fuel := 8) (laidMet_of_run' 8 (by kernel_rfl) (by kernel_rfl)) (by kernel_rfl) (by kernel_rfl)
theorem own : ownKnob Tryz.prog.godebug = none := by kernel_rfl
end Go.Proofs.YthajnkcipifhcaaGreatDoor
