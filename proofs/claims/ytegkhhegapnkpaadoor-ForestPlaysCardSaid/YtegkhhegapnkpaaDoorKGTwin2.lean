/-
  Both forests under a call of the code's, while another forest lies in a box of its own.
-/
import Derived.Test.YtegkhhegapnkpaaDoorKGExt
import Derived.Test.YtegkhhegapnkpaaDoorKGAwake
import Derived.Maps.RangeWalk
import Derived.Laws.IdiomRangeMap
import Derived.Test.YtegkhhegapnkpaaDoorKFMiss
import Derived.Test.YtegkhhegapnkpaaDoorKFNew
import Derived.Test.YtegkhhegapnkpaaDoorKGFew
section
open Go Go.RowKit
namespace FF
open WW BB Go.Maps
/-- what of the map has come and is kept -/
structure KeptS (F : Fo) (N : List Iv) (h : ByteArray) (left : Lit → Bool) (ss : List ByteArray) : Prop where
  nd : ss.Nodup
  mem : ∀ x, x ∈ ss ↔ ((entF F N x).isSome = true ∧ left (keyL x) = false ∧ x ≠ h ∧ (pathF F h x).isSome = true)
def inL (ss : List ByteArray) (x : ByteArray) : Bool := ss.any fun y => decide (y = x)
theorem inL_iff {ss : List ByteArray} {x : ByteArray} : inL ss x = true ↔ x ∈ ss := by
  unfold inL; rw [List.any_eq_true]
  exact ⟨fun ⟨y, hy, e⟩ => (show y = x by simpa using e) ▸ hy, fun h => ⟨x, h, by simp⟩⟩
def keptF (F : Fo) (N : List Iv) (ss : List ByteArray) : ByteArray → Option Sv := fun x => if inL ss x = true then entF F N x else none
theorem keptF_snoc {F : Fo} {N : List Iv} {ss : List ByteArray} {x : ByteArray} {s : Sv} (hs : entF F N x = some s) (z : ByteArray) : setM (keptF F N ss) x s z = keptF F N (ss ++ [x]) z := by
  unfold setM keptF
  by_cases e : z = x
  · subst e; rw [if_pos rfl, if_pos (inL_iff.2 (by simp)), hs]
  · rw [if_neg e]
    by_cases h : z ∈ ss
    · rw [if_pos (inL_iff.2 h), if_pos (inL_iff.2 (List.mem_append_left _ h))]
    · rw [if_neg (fun c => h (inL_iff.1 c)), if_neg (fun c => by
        rcases List.mem_append.1 (inL_iff.1 c) with c | c
        · exact h c
        · exact e (by simpa using c))]
theorem keyL_same (x : ByteArray) : (keyL x).sameKey (keyL x) = true := WideAt.sameKey_self trivial
theorem keyL_other {x y : ByteArray} (h : x ≠ y) : (keyL x).sameKey (keyL y) = false := sameKey_ne fun e => h (keyL_inj e)
theorem KeptS.start {F : Fo} {N : List Iv} {h : ByteArray} {left : Lit → Bool} (hl : ∀ x, (entF F N x).isSome = left (keyL x)) : KeptS F N h left [] :=
  ⟨List.nodup_nil, fun x => by simp only [List.not_mem_nil, false_iff]; rintro ⟨h1, h2, _⟩; rw [hl x, h2] at h1; cases h1⟩
theorem KeptS.take {F : Fo} {N : List Iv} {h x : ByteArray} {left : Lit → Bool} {ss : List ByteArray} (k : KeptS F N h left ss) (hl : left (keyL x) = true) (he : (entF F N x).isSome = true) (hne : x ≠ h) (hp : (pathF F h x).isSome = true) : KeptS F N h (fun z => left z && !z.sameKey (keyL x)) (ss ++ [x]) := by
  have hx : x ∉ ss := fun c => by have := ((k.mem x).1 c).2.1; rw [hl] at this; cases this
  refine ⟨by rw [List.nodup_append]; exact ⟨k.nd, by simp, fun a ha b hb => by rintro rfl; rw [List.mem_singleton] at hb; subst hb; exact hx ha⟩, fun z => ?_⟩
  rw [List.mem_append, List.mem_singleton, k.mem]
  by_cases e : z = x
  · subst e; simp [keyL_same, he, hne, hp]
  · simp [keyL_other e, e]
theorem KeptS.pass {F : Fo} {N : List Iv} {h x : ByteArray} {left : Lit → Bool} {ss : List ByteArray} (k : KeptS F N h left ss) (hn : ¬ (x ≠ h ∧ (pathF F h x).isSome = true)) : KeptS F N h (fun z => left z && !z.sameKey (keyL x)) ss := by
  refine ⟨k.nd, fun z => ?_⟩
  rw [k.mem]
  by_cases e : z = x
  · subst e
    constructor
    · rintro ⟨_, _, h3⟩; exact absurd h3 hn
    · rintro ⟨_, _, h3⟩; exact absurd h3 hn
  · simp [keyL_other e]
theorem nodup_key {N : List Iv} (h : (N.map (fun z => z.1.1)).Nodup) {x y : Iv} (hx : x ∈ N) (hy : y ∈ N) (e : x.1.1 = y.1.1) : x = y := by
  induction N with
  | nil => cases hx
  | cons z r ih =>
    rw [List.map_cons, List.nodup_cons] at h
    rcases List.mem_cons.1 hx with e1 | hx
    · rcases List.mem_cons.1 hy with e2 | hy
      · rw [e1, e2]
      · exact absurd (List.mem_map.2 ⟨y, hy, by rw [← e, e1]⟩) h.1
    · rcases List.mem_cons.1 hy with e2 | hy
      · exact absurd (List.mem_map.2 ⟨x, hx, by rw [e, e2]⟩) h.1
      · exact ih h.2 hx hy
/-- the nodes that stay -/
def cutN (F : Fo) (h : ByteArray) (N : List Iv) : List Iv := N.filter fun x => (pathF F h x.1.1).isSome && decide (x.1.1 ≠ h)
theorem cutN_map {F : Fo} {h : ByteArray} {N : List Iv} (hn : N.map Prod.fst = F.nodes) : (cutN F h N).map Prod.fst = (cutF F h).nodes := by
  show _ = F.nodes.filter _
  rw [← hn, List.filter_map]; rfl
theorem KeptS.len {F : Fo} {N : List Iv} {h : ByteArray} {left : Lit → Bool} {ss : List ByteArray} (k : KeptS F N h left ss) (_hF : WF F) (hn : N.map Prod.fst = F.nodes) : ss.length ≤ F.nodes.length := by
  have := List.Nodup.length_le_of_subset k.nd (l₂ := F.nodes.map Prod.fst) fun x hx => by
    have h1 := ((k.mem x).1 hx).1
    rw [ent_some hn, decide_eq_true_iff, at_mem] at h1
    obtain ⟨y, hy, rfl⟩ := h1
    exact List.mem_map.2 ⟨y, hy, rfl⟩
  rwa [List.length_map] at this
theorem key_size {P : Program} {k : TypeId} (hk : P.underlying k = some .string) {x : ByteArray} {kl : Lit} (h : keyOf P k (.string x) = some kl) : x.size ≤ maxLen := by
  simp [keyOf, hk, mapKey] at h
  exact h.1
theorem KeptS.fits {F : Fo} {N : List Iv} {h : ByteArray} {left : Lit → Bool} {ss : List ByteArray} (k : KeptS F N h left ss) (hF : WF F) (hn : N.map Prod.fst = F.nodes) (hh : hasF F h = true) (hl : ∀ z, left z = false) :
    (∀ x, keptF F N ss x = entF (cutF F h) (cutN F h N) x) ∧ ss.length = (cutF F h).nodes.length := by
  have hm : ∀ x, x ∈ ss ↔ ∃ y ∈ (cutF F h).nodes, y.1 = x := by
    intro x
    rw [k.mem, hl]
    constructor
    · rintro ⟨h1, _, h3, h4⟩
      rw [ent_some hn, decide_eq_true_iff, at_mem] at h1
      obtain ⟨y, hy, rfl⟩ := h1
      refine ⟨y, List.mem_filter.2 ⟨hy, by rw [h4]; simpa using h3⟩, rfl⟩
    · rintro ⟨y, hy, rfl⟩
      obtain ⟨hy1, hy2⟩ := List.mem_filter.1 hy
      rw [Bool.and_eq_true, decide_eq_true_iff] at hy2
      exact ⟨by rw [ent_some hn, decide_eq_true_iff, at_mem]; exact ⟨y, hy1, rfl⟩, rfl, hy2.2, hy2.1⟩
  have hcw := cut_wf hF hh
  refine ⟨fun x => ?_, ?_⟩
  · unfold keptF
    by_cases hx : x ∈ ss
    · rw [if_pos (inL_iff.2 hx)]
      obtain ⟨y, hy, rfl⟩ := (hm x).1 hx
      have hyF : y ∈ F.nodes := (List.mem_filter.1 hy).1
      have e1 : (entF F N y.1).isSome = true := by rw [ent_some hn, decide_eq_true_iff, at_mem]; exact ⟨y, hyF, rfl⟩
      have e2 : (entF (cutF F h) (cutN F h N) y.1).isSome = true := by rw [ent_some (cutN_map hn), decide_eq_true_iff, at_mem]; exact ⟨y, hy, rfl⟩
      obtain ⟨s1, hs1⟩ := Option.isSome_iff_exists.1 e1
      obtain ⟨s2, hs2⟩ := Option.isSome_iff_exists.1 e2
      obtain ⟨x1, hx1, hk1, rfl⟩ := ent_of hs1
      obtain ⟨x2, hx2, hk2, rfl⟩ := ent_of hs2
      have hx2N : x2 ∈ N := (List.mem_filter.1 hx2).1
      have hxx : x1 = x2 := by
        have hnd : (N.map (fun z => z.1.1)).Nodup := by
          have := hF.nodup; rw [← hn, List.map_map] at this; exact this
        exact nodup_key hnd hx1 hx2N (by rw [hk1, hk2])
      rw [hs1, hs2, hxx]
      congr 2
      exact (cut_height hF hh hy).symm
    · rw [if_neg (fun c => hx (inL_iff.1 c))]
      cases he : entF (cutF F h) (cutN F h N) x with
      | none => rfl
      | some s =>
        have : (entF (cutF F h) (cutN F h N) x).isSome = true := by rw [he]; rfl
        rw [ent_some (cutN_map hn), decide_eq_true_iff, at_mem] at this
        exact absurd ((hm x).2 this) hx
  · have hp : ss.Perm ((cutF F h).nodes.map Prod.fst) := (List.perm_ext_iff_of_nodup k.nd hcw.nodup).2 fun x => by
      rw [hm, List.mem_map]
    rw [hp.length_eq, List.length_map]
end FF
namespace Go.Proofs.YtegkhhegapnkpaaDoor
open FF JJ CC MM WW BB Go.Maps
/-- what Prune leaves -/
def PruneAns (B : Nat) (w : World) (g : Nat) (mv ov : Value) (C : Nat → Prop) (R : Fo × Int) (e : Ending) (w' : World) : Prop :=
  e = .returned (.int .i64 R.2) ∧ ∃ rt' mv' ov' N' O' C', CFs B w' g R.1 rt' mv' ov' N' O' C' ∧ Keeps (fun b => ¬ MineB g mv ov C b) w w' ∧ (∀ b, MineB g mv' ov' C' b → MineB g mv ov C b ∨ w.heap.size ≤ b)
theorem prune_no {F : Fo} {h : ByteArray} (hh : hasF F h = false) : pruneF F h = (F, 10) := by unfold pruneF; rw [if_pos hh]
theorem prune_yes {F : Fo} {h : ByteArray} (hh : hasF F h = true) : pruneF F h = (cutF F h, 0) := by unfold pruneF; rw [if_neg (by rw [hh]; simp)]; rfl
section
variable {B : Nat} {w w1 w2 : World} {g : Nat} {F : Fo} {rt : ByteArray} {mv ov : Value} {N O : List Iv} {C : Nat → Prop}
/-- the forest cut: the map kb holds what stays, the four cells are written -/
theorem CFs.cut (h : CFs B w g F rt mv ov N O C) {hd : ByteArray} (hh : hasF F hd = true) {kb : Nat} (hkb : w.heap.size ≤ kb) (hb : Below w.heap.size w w1) (hm : MapAt Tryd.prog 9 w1 (.map (some kb)) (entF (cutF F hd) (cutN F hd N)) (cutF F hd).nodes.length) (hu : Upd g w1 w2)
    (hblk : TBlk 128 w2 g 4 (rowL [.string hd, .int .i64 (heightF F hd), .map (some kb), .slice none 0 0])) : CFs B w2 g (cutF F hd) hd (.map (some kb)) (.slice none 0 0) (cutN F hd N) [] C := by
  have hgl := h.blk.lt
  refine ⟨cut_wf h.wf hh, hblk, Or.inr rfl, cutN_map h.nodes, rfl, hm.keep fun b e => hu.block b fun c => ?_, fun b e => ?_, World.ownsRow_nil _ _ _ _, ?_, h.gB, h.cB, h.cg, fun b e hc => ?_, (fun b e => by cases e), fun b hc => ?_, fun x hx => ?_⟩
  · cases e; omega
  · cases e; have := h.gB; omega
  · have h1 : Keeps C w w2 := (Keeps.of hb).trans (Keeps.upd hu fun b hc e => h.cg (e ▸ hc))
    intro w' hk x hx
    rw [List.append_nil] at hx
    exact h.inn w' (h1.trans hk) x (List.mem_append_left _ (List.mem_filter.1 hx).1)
  · cases e; have := h.cl _ hc; omega
  · have := h.cl b hc; have := hb.size; rw [hu.size]; omega
  · rw [List.append_nil] at hx
    exact h.small x (List.mem_append_left _ (List.mem_filter.1 hx).1)
end
/-- where the loop of Prune stands -/
structure PrSt (w : World) (mb kb r : Nat) (F : Fo) (N : List Iv) (h : ByteArray) (D : DataW Sv) (left : Lit → Bool) (cnt : Nat) (ss : List ByteArray) (wr : World) : Prop where
  below : Below w.heap.size w wr
  rng : wr.ranges Tryd.prog 9 svR mb r F.nodes.length D left cnt
  kept : MapAt Tryd.prog 9 wr (.map (some kb)) (keptF F N ss) ss.length
  ks : KeptS F N h left ss
theorem tset4 {t : TypeId} {w : World} {a : Nat} {f : Nat → Value} (h : TBlk t w a 4 f) (u0 u1 u2 u3 : Value) :
    TBlk t ((((w.setCell ⟨a, 0, none⟩ u0).setCell ⟨a, 1, none⟩ u1).setCell ⟨a, 2, none⟩ u2).setCell ⟨a, 3, none⟩ u3) a 4 (rowL [u0, u1, u2, u3]) ∧ Upd a w ((((w.setCell ⟨a, 0, none⟩ u0).setCell ⟨a, 1, none⟩ u1).setCell ⟨a, 2, none⟩ u2).setCell ⟨a, 3, none⟩ u3) := by
  refine ⟨((((h.set 0 u0).set 1 u1).set 2 u2).set 3 u3).congr _ fun i hi => ?_, ((((Upd.refl a w).trans (Upd.set _ _ _ _)).trans (Upd.set _ _ _ _)).trans (Upd.set _ _ _ _)).trans (Upd.set _ _ _ _)⟩
  match i, hi with
  | 0, _ => rfl
  | 1, _ => rfl
  | 2, _ => rfl
  | 3, _ => rfl
set_option maxRecDepth 100000 in
set_option maxHeartbeats 8000000 in
theorem gprune_any {B : Nat} {w : World} {g : Nat} {F : Fo} {rt : ByteArray} {mv ov : Value} {N O : List Iv} {C : Nat → Prop} (hC : CFs B w g F rt mv ov N O C) (hT : Tabs w) (h : ByteArray) (hs : h.size ≤ 1000000) :
    Calls Tryd.prog 30 #[.pointer (some ⟨g, 0, none⟩), .string h] w (PruneAns B w g mv ov C (pruneF F h)) := by
  have HC := Lib.hid hC
  have HT := Lib.hid hT
  have HS := Lib.hid hs
  by_cases hh : hasF F h = true
  · rw [prune_yes hh]
    have HH := Lib.hid hh
    have hgl := hC.blk.lt
    have HGL := Lib.hid hgl
    rcases hC.map with ⟨rfl, hnil, hz⟩ | ⟨mb, D, rfl, hown, hm, hsz⟩
    · have hmm := @run_makeMap Tryd.prog
      have HNIL := Lib.hid hnil
      clear hC hT hs hh hnil hz hgl
      go_enter Tryd.func30, Tryd.ntmps30
      go_wp2_with fail
      refine (ghas_is HC.out HT.out h true HH.out HS.out).mono ?_
      rintro e w1 ⟨rfl, hb1⟩
      have B1 := Lib.hid hb1
      have B2 := Lib.hid (hb1.alloc hb1.size (.map #[] 0))
      have HC2 := Lib.hid (HC.out.on B2.out)
      have HK2 := Lib.hid (mapAt_made (P := Tryd.prog) (k := 9) w1)
      have c2 := HC2.out.c2
      have B4 := Lib.hid (B2.out.alloc B2.out.size (.mapIter none 0 #[] 0))
      have MK4 := Lib.hid (show MapAt Tryd.prog 9 ((w1.alloc (.map #[] 0)).alloc (.mapIter none 0 #[] 0)) (.map (some w1.heap.size)) (keptF F N []) ([] : List ByteArray).length from ((HK2.out.later ((Below.refl _ _).alloc (Nat.le_refl _) _)).congr fun x => rfl))
      clear hb1
      obtain ⟨W2, hW2⟩ : ∃ W2, w1.alloc (.map #[] 0) = W2 := ⟨_, rfl⟩
      have hrg := run_range_nilMap (P := Tryd.prog) W2 125 9 135 (by kernel_rfl)
      have hnx : ∀ ty, (Instr.next (.pointer (some ⟨W2.heap.size, 0, none⟩)) false ty).run Tryd.prog (W2.alloc (.mapIter none 0 #[] 0)) = _ := fun ty => run_next_nilMap _ ty 0 0 #[]
      have HKB := Lib.hid (show w.heap.size ≤ w1.heap.size from B1.out.size)
      rw [← hW2] at hrg hnx
      clear hW2
      go_wp2_with fail
      refine wp_loop_rounds 1 ?_
      rw [rounds_succ]
      obtain ⟨kb, hkb⟩ : ∃ kb, w1.heap.size = kb := ⟨_, rfl⟩
      rw [show (w1.alloc (.map #[] 0)).heap.size = kb + 1 by simp [hkb]] at hnx
      rw [hkb] at HKB MK4 ⊢
      generalize hwr : (w1.alloc (.map #[] 0)).alloc (.mapIter none 0 #[] 0) = wr at B4 MK4 hnx ⊢
      clear hwr hkb
      have HF := Lib.hid ((KeptS.start (left := fun _ => false) fun x => by rw [HNIL.out x]; rfl : KeptS F N h (fun _ => false) []).fits HC.out.wf HC.out.nodes HH.out fun _ => rfl)
      have HCR := Lib.hid (HC.out.on B4.out)
      have HTR := Lib.hid (tabs_on HT.out B4.out)
      clear hrg hmm c2
      go_wp2_with fail
      refine (gheight_any HCR.out HTR.out h HS.out).mono ?_
      rintro e w5 ⟨rfl, hb5⟩
      have B5 := Lib.hid (B4.out.trans (hb5.mono B4.out.size))
      have HK5 := Lib.hid (MK4.out.later hb5)
      have HC5 := Lib.hid (HC.out.on B5.out)
      clear hb5
      have v0 := HC5.out.c0
      have v1 := HC5.out.c1
      have v2 := HC5.out.c2
      have v3 := HC5.out.c3
      have z0 := HC5.out.blk.blk.frz 0
      have z1 := HC5.out.blk.blk.frz 1
      have z2 := HC5.out.blk.blk.frz 2
      have z3 := HC5.out.blk.blk.frz 3
      obtain ⟨xi, ui⟩ := tset4 HC5.out.blk (.string h) (.int .i64 (heightF F h)) (.map (some kb)) (.slice none 0 0)
      have XI := Lib.hid xi
      have UI := Lib.hid ui
      clear xi ui
      obtain ⟨oa, oc, hov⟩ := HC.out.shapeO
      go_wp2_with fail
      clear v0 v1 v2 v3 z0 z1 z2 z3
      go_ret
      have hk6 : MapAt Tryd.prog 9 w5 (.map (some kb)) (entF (cutF F h) (cutN F h N)) (cutF F h).nodes.length := by
        rw [← HF.out.2]; exact HK5.out.congr HF.out.1
      refine ⟨rfl, h, .map (some kb), .slice none 0 0, cutN F h N, [], C, HC.out.cut HH.out HKB.out B5.out hk6 UI.out XI.out, (Keeps.of B5.out).trans (Keeps.upd UI.out fun b hb e => hb (Or.inl e)), fun b hb => ?_⟩
      rcases hb with hb | hb | hb | hb
      · exact Or.inl (Or.inl hb)
      · cases hb; exact Or.inr HKB.out
      · cases hb
      · exact Or.inl (Or.inr (Or.inr (Or.inr hb)))
    · have HM := Lib.hid hm
      have HMB := Lib.hid (show mb < w.heap.size from hown.lt)
      clear hC hT hs hh hown hm hsz hgl
      have hmm := @run_makeMap Tryd.prog
      go_enter Tryd.func30, Tryd.ntmps30
      go_wp2_with fail
      refine (ghas_is HC.out HT.out h true HH.out HS.out).mono ?_
      rintro e w1 ⟨rfl, hb1⟩
      have B1 := Lib.hid hb1
      have B2 := Lib.hid (hb1.alloc hb1.size (.map #[] 0))
      have HC2 := Lib.hid (HC.out.on B2.out)
      have HK2 := Lib.hid (mapAt_made (P := Tryd.prog) (k := 9) w1)
      have c2 := HC2.out.c2
      clear hb1
      obtain ⟨D', hown2, hm2⟩ : ∃ D', (w1.alloc (.map #[] 0)).ownsMap Tryd.prog 9 svR mb F.nodes.length D' ∧ MapOf D' (entF F N) := by
        rcases HC2.out.map with ⟨h1, _⟩ | ⟨b', D', h1, h2, h3, _⟩
        · cases h1
        · cases h1; exact ⟨D', h2, h3⟩
      have HOWN2 := Lib.hid hown2
      have HM2 := Lib.hid hm2
      clear hown2 hm2 HM
      go_wp2_with (at_range; refine wpList_range_own _ rfl _ 125 rfl 9 135 (string_keyed (by kernel_rfl)) (by kernel_rfl) _ mb F.nodes.length D' rfl HOWN2.out ?_; intro w3 hrg hg3 hs3)
      go_frame
      obtain ⟨kb, hkb⟩ : ∃ kb, w1.heap.size = kb := ⟨_, rfl⟩
      have HKB := Lib.hid (show w.heap.size ≤ kb by rw [← hkb]; exact B1.out.size)
      have hrs : (w1.alloc (.map #[] 0)).heap.size = kb + 1 := by simp [hkb]
      rw [hrs] at hrg ⊢
      rw [hkb] at HK2 ⊢
      have S3 := Lib.hid (show PrSt w mb kb (kb + 1) F N h D' (Maps.has D') (Maps.size D') [] w3 from
        ⟨B2.out.grown hg3 B2.out.size (fun j e => by cases e), hrg, (HK2.out.keep fun b e => hg3.block b (HK2.out.lt b e) (by simp)).congr fun x => rfl, KeptS.start fun x => (HM2.out.has x).symm⟩)
      clear hrg hg3 hs3 hrs hkb hmm c2
      go_loopw [7] (fun _ wr => ∃ left cnt ss, PrSt w mb kb (kb + 1) F N h D' left cnt ss wr) (fun _ wr => wr.rangeLeft mb (kb + 1))
      case atStart => exact ⟨_, _, [], S3.out⟩
      case round =>
        clear S3
        obtain ⟨left, cnt, ss, hS⟩ := hrel
        have HST := Lib.hid hS
        clear hS
        go_wp2_with (at_next; refine wpList_next_ranges _ rfl _ rfl 9 (string_keyed (by kernel_rfl)) svR Value.string encE (fun key kl hk => Maps.keyOf_string_inv (by kernel_rfl) hk) (fun v y hv => by obtain ⟨s, hs, _⟩ := svR_inv hv; exact ⟨s, hs⟩) mb (kb + 1) F.nodes.length _ _ _ rfl HST.out.rng ?_ ?_)
        · intro hc0 hl0
          have HF := Lib.hid (HST.out.ks.fits HC.out.wf HC.out.nodes HH.out hl0)
          have HCR := Lib.hid (HC.out.on HST.out.below)
          have HTR := Lib.hid (tabs_on HT.out HST.out.below)
          clear hc0 hl0
          go_wp2_with fail
          refine (gheight_any HCR.out HTR.out h HS.out).mono ?_
          rintro e w5 ⟨rfl, hb5⟩
          have B5 := Lib.hid (HST.out.below.trans (hb5.mono HST.out.below.size))
          have HK5 := Lib.hid (HST.out.kept.later hb5)
          have HC5 := Lib.hid (HC.out.on B5.out)
          clear hb5
          have v0 := HC5.out.c0
          have v1 := HC5.out.c1
          have v2 := HC5.out.c2
          have v3 := HC5.out.c3
          have z0 := HC5.out.blk.blk.frz 0
          have z1 := HC5.out.blk.blk.frz 1
          have z2 := HC5.out.blk.blk.frz 2
          have z3 := HC5.out.blk.blk.frz 3
          obtain ⟨xi, ui⟩ := tset4 HC5.out.blk (.string h) (.int .i64 (heightF F h)) (.map (some kb)) (.slice none 0 0)
          have XI := Lib.hid xi
          have UI := Lib.hid ui
          clear xi ui
          obtain ⟨oa, oc, hov⟩ := HC.out.shapeO
          go_wp2_with fail
          clear v0 v1 v2 v3 z0 z1 z2 z3
          go_ret
          have hk6 : MapAt Tryd.prog 9 w5 (.map (some kb)) (entF (cutF F h) (cutN F h N)) (cutF F h).nodes.length := by
            rw [← HF.out.2]; exact HK5.out.congr HF.out.1
          refine ⟨rfl, h, .map (some kb), .slice none 0 0, cutN F h N, [], C, HC.out.cut HH.out HKB.out B5.out hk6 UI.out XI.out, (Keeps.of B5.out).trans (Keeps.upd UI.out fun b hb e => hb (Or.inl e)), fun b hb => ?_⟩
          rcases hb with hb | hb | hb | hb
          · exact Or.inl (Or.inl hb)
          · cases hb; exact Or.inr HKB.out
          · cases hb
          · exact Or.inl (Or.inr (Or.inr (Or.inr hb)))
        · intro x v p j k a1 n1 k1 a2 n2 k2 s kl y1 y2 w4 cnt1 hkey hlx hy hat hrg1 hlt hg1 hs1 hen
          have hxs := key_size (by kernel_rfl) hkey
          obtain rfl : kl = keyL x := by rw [key_str (by kernel_rfl) hxs] at hkey; exact (Option.some.inj hkey).symm
          rw [svR_mk] at hy
          obtain ⟨rfl, rfl⟩ : DataW.held ((v, p, j, k), (a1, n1, k1), (a2, n2, k2), s) = y1 ∧ ([] : List MemPlace) = y2 := by simpa using hy
          have hes : entF F N x = some ((v, p, j, k), (a1, n1, k1), (a2, n2, k2), s) := by
            have h1 := HM2.out.has x
            rw [has_true_of_atKey hat] at h1
            obtain ⟨q, hs⟩ := Option.isSome_iff_exists.1 h1.symm
            have h2 := HM2.out.at_ x q hs (.held zE)
            rw [hat] at h2
            cases h2; exact hs
          have HES := Lib.hid hes
          have HXS := Lib.hid hxs
          have H32 := Lib.hid (show x.size ≤ 1000000 by
            obtain ⟨z, hz, e, _⟩ := ent_of hes
            have := HC.out.wf.d32 z.1 (List.mem_append_left _ (by rw [← HC.out.nodes]; exact List.mem_map.2 ⟨z, hz, rfl⟩))
            rw [e] at this; omega)
          have HLX := Lib.hid hlx
          have B4 := Lib.hid (HST.out.below.grown hg1 HST.out.below.size (fun j e => by cases e; have := HKB.out; omega))
          have RG4 := Lib.hid hrg1
          have MK4 := Lib.hid (HST.out.kept.keep fun b e => hg1.block b (HST.out.kept.lt b e) (by cases e; intro e2; exact absurd (Option.some.inj e2) (by omega)))
          have HLT := Lib.hid (show w4.rangeLeft mb (kb + 1) < wr.rangeLeft mb (kb + 1) by rw [hrg1.left_eq, HST.out.rng.left_eq]; exact hlt)
          replace hen : (Instr.entry (.pointer (some ⟨kb + 1, 0, none⟩))).run Tryd.prog w4 = .ok (.tuple #[.string x, .agg #[.int .i64 v, .int .i64 p, .int .i64 j, .string k, .slice a1 n1 k1, .slice a2 n2 k2, .int .i64 s]]) w4 := hen
          rw [show encE ((v, p, j, k), (a1, n1, k1), (a2, n2, k2), s) = .agg #[.int .i64 v, .int .i64 p, .int .i64 j, .string k, .slice a1 n1 k1, .slice a2 n2 k2, .int .i64 s] from rfl]
          clear hkey hlx hy hat hrg1 hlt hg1 hs1 hes hxs
          have A5 := Lib.hid ((Below.refl w4.heap.size w4).alloc (Nat.le_refl _) (.cells #[.int .i64 v, .int .i64 p, .int .i64 j, .string k, .slice a1 n1 k1, .slice a2 n2 k2, .int .i64 s] 135))
          have L5 := Lib.hid (show Blk (w4.alloc (.cells #[.int .i64 v, .int .i64 p, .int .i64 j, .string k, .slice a1 n1 k1, .slice a2 n2 k2, .int .i64 s] 135)) w4.heap.size 7 (rowL [.int .i64 v, .int .i64 p, .int .i64 j, .string k, .slice a1 n1 k1, .slice a2 n2 k2, .int .i64 s]) from Blk.new' rfl rfl)
          have B5 := Lib.hid (B4.out.trans (A5.out.mono B4.out.size))
          have RG5 := Lib.hid (RG4.out.kept (grown_of_below A5.out) (by simp) (by simp))
          have MK5 := Lib.hid (MK4.out.later A5.out)
          have LE5 := Lib.hid (show (w4.alloc (.cells #[.int .i64 v, .int .i64 p, .int .i64 j, .string k, .slice a1 n1 k1, .slice a2 n2 k2, .int .i64 s] 135)).rangeLeft mb (kb + 1) < wr.rangeLeft mb (kb + 1) by rw [RG5.out.left_eq, ← RG4.out.left_eq]; exact HLT.out)
          by_cases hxh : x = h
          · have t1 : (x.toList != h.toList) = false := by rw [hxh]; simp
            have t2 : (x.toList == h.toList) = true := by rw [hxh]; simp
            have t3 : x.toList = h.toList := by rw [hxh]
            have HXH := Lib.hid hxh
            clear hxh
            go_wp2_with fail
            go_roundw
            case rel => exact ⟨_, cnt1, ss, ⟨B5.out, RG5.out, MK5.out, HST.out.ks.pass fun c => c.1 HXH.out⟩⟩
            case measure => exact LE5.out
          · have t1 : (x.toList != h.toList) = true := by rw [bne, ba_beq hxh]; rfl
            have t2 := ba_beq hxh
            have t3 : ¬ x.toList = h.toList := fun e => hxh (CC.ba_toList e)
            have HXH := Lib.hid hxh
            clear hxh
            obtain ⟨bb, hbb⟩ : ∃ bb, (pathF F h x).isSome = bb := ⟨_, rfl⟩
            have HBB := Lib.hid hbb
            clear hbb
            go_wp2_with fail
            refine (gext_any (HC.out.on B5.out) (tabs_on HT.out B5.out) x h H32.out).mono ?_
            rintro e w6 ⟨rfl, hb6⟩
            rw [HBB.out]
            have B6 := Lib.hid (B5.out.trans (hb6.mono B5.out.size))
            have RG6 := Lib.hid (RG5.out.kept (grown_of_below hb6) (by simp) (by simp))
            have MK6 := Lib.hid (MK5.out.later hb6)
            have L6 := Lib.hid (L5.out.below hb6 L5.out.lt)
            have LE6 := Lib.hid (show w6.rangeLeft mb (kb + 1) < wr.rangeLeft mb (kb + 1) by rw [RG6.out.left_eq, ← RG5.out.left_eq]; exact LE5.out)
            clear hb6
            cases bb
            · go_wp2_with fail
              go_roundw
              case rel => exact ⟨_, cnt1, ss, ⟨B6.out, RG6.out, MK6.out, HST.out.ks.pass fun c => by rw [HBB.out] at c; cases c.2⟩⟩
              case measure => exact LE6.out
            · have c0 := L6.out.get 0 (by omega)
              have c1 := L6.out.get 1 (by omega)
              have c2 := L6.out.get 2 (by omega)
              have c3 := L6.out.get 3 (by omega)
              have c4 := L6.out.get 4 (by omega)
              have c5 := L6.out.get 5 (by omega)
              have c6 := L6.out.get 6 (by omega)
              have HSL := Lib.hid (show ss.length < maxLen by have := HST.out.ks.len HC.out.wf HC.out.nodes; have := HC.out.wf.n400; unfold maxLen; omega)
              have HNX := Lib.hid (show keptF F N ss x = none from if_neg fun c => by have := ((HST.out.ks.mem x).1 (inL_iff.1 c)).2.1; rw [HLX.out] at this; cases this)
              go_wp2_with (at_mapUpdate; refine wpl_mput (e := 135) _ _ _ x ((v, p, j, k), (a1, n1, k1), (a2, n2, k2), s) rfl rfl (by kernel_rfl) (by kernel_rfl) (n := ss.length) HSL.out MK6.out HNX.out rfl rfl HXS.out rfl ?_)
              intro w7 hm7 hg7
              have MK7 := Lib.hid (hm7.congr (keptF_snoc HES.out))
              have B7 := Lib.hid (B6.out.grown hg7 B6.out.size (fun j e => by cases e; exact HKB.out))
              have RG7 := Lib.hid (RG6.out.kept hg7 (by intro e; have := Option.some.inj e; have := HMB.out; have := HKB.out; omega) (by intro e; have := Option.some.inj e; omega))
              have LE7 := Lib.hid (show w7.rangeLeft mb (kb + 1) < wr.rangeLeft mb (kb + 1) by rw [RG7.out.left_eq, ← RG6.out.left_eq]; exact LE6.out)
              clear hm7 hg7 c0 c1 c2 c3 c4 c5 c6
              go_wp2_with fail
              go_roundw
              case rel => exact ⟨_, cnt1, ss ++ [x], ⟨B7.out, RG7.out, by rw [List.length_append]; exact MK7.out, HST.out.ks.take HLX.out (by rw [HES.out]; rfl) HXH.out HBB.out⟩⟩
              case measure => exact LE7.out
  · have hh' : hasF F h = false := by simpa using hh
    rw [prune_no hh']
    have HH := Lib.hid hh'
    clear hC hT hs hh hh'
    go_enter Tryd.func30, Tryd.ntmps30
    go_wp2_with fail
    refine (ghas_is HC.out HT.out h false HH.out HS.out).mono ?_
    rintro e w1 ⟨rfl, hb1⟩
    have B1 := Lib.hid hb1
    clear hb1
    go_wp2_with fail
    go_ret
    exact ⟨rfl, rt, mv, ov, N, O, C, HC.out.on B1.out, Keeps.of B1.out, fun _ h => Or.inl h⟩
end Go.Proofs.YtegkhhegapnkpaaDoor
end
section
open Go Go.RowKit
namespace FF
open WW BB
/-- the call's two boxes: the forest, the result -/
structure PrB (w : World) (g : Nat) (f1 f3 : Nat → Value) (w' : World) : Prop where
  below : Below w.heap.size w w'
  lo : w.heap.size = g
  a : Blk w' g 4 f1
  c : Blk w' (g + 1) 4 f3
theorem PrB.on {w : World} {g : Nat} {f1 f3 : Nat → Value} {w1 w2 : World} (h : PrB w g f1 f3 w1) (hb : Below w1.heap.size w1 w2) : PrB w g f1 f3 w2 :=
  ⟨h.below.trans (hb.mono h.below.size), h.lo, h.a.below hb h.a.lt, h.c.below hb h.c.lt⟩
theorem PrB.mk2 (w : World) (cs es : List Value) (t s : TypeId) (h1 : cs.toArray = row 4 (rowL cs)) (h3 : es.toArray = row 4 (rowL es)) : PrB w w.heap.size (rowL cs) (rowL es) ((w.alloc (.cells cs.toArray t)).alloc (.cells es.toArray s)) := by
  have b1 := (Below.refl w.heap.size w).alloc (Nat.le_refl _) (.cells cs.toArray t)
  have b2 := b1.alloc b1.size (.cells es.toArray s)
  exact ⟨b2, rfl, (Blk.new' rfl h1).alloc _, Blk.new' (by simp) h3⟩
/-- what stays of an item -/
def stayB (F : Fo) (h : ByteArray) (x : Iv) : Bool := (pathF F h x.1.1).isSome && decide (x.1.1 ≠ h)
theorem cutN_eq (F : Fo) (h : ByteArray) (N : List Iv) : cutN F h N = N.filter (stayB F h) := rfl
theorem take_stay {F : Fo} {h : ByteArray} {N : List Iv} {i : Nat} (hi : i < N.length) : cutN F h (N.take (i + 1)) = cutN F h (N.take i) ++ (if stayB F h (N.getD i v0) = true then [N.getD i v0] else []) := by
  rw [cutN_eq, cutN_eq, List.take_add_one, List.getElem?_eq_getElem hi, List.filter_append]
  congr 1
  rw [getD_at hi]
  simp only [Option.toList_some, List.filter_cons, List.filter_nil]
theorem cut_len {F : Fo} {h : ByteArray} {N : List Iv} (i : Nat) : (cutN F h (N.take i)).length ≤ N.length := by
  rw [cutN_eq]
  exact Nat.le_trans (List.length_filter_le _ _) (by rw [List.length_take]; omega)
theorem cut_sub {F : Fo} {h : ByteArray} {N : List Iv} {i : Nat} : ∀ x ∈ cutN F h (N.take i), x ∈ N := fun _ hx => List.mem_of_mem_take (List.mem_filter.1 hx).1
/-- where the loop stands -/
structure PnS (e : TypeId) (y : Nat) (F : Fo) (h : ByteArray) (N : List Iv) (i : Nat) (x : Value) (wr : World) : Prop where
  blk : Blk wr y 4 (rowL [.string h, .int .i64 (heightF F h), x, .slice none 0 0])
  row : wr.ownsRow (y + 1) e 7 x (cutN F h (N.take i)).length (cellsV (cutN F h (N.take i)))
theorem PnS.on {e : TypeId} {y : Nat} {F : Fo} {h : ByteArray} {N : List Iv} {i : Nat} {x : Value} {wr w2 : World} (k : PnS e y F h N i x wr) (hb : Below wr.heap.size wr w2) : PnS e y F h N i x w2 :=
  ⟨k.blk.below hb k.blk.lt, row_keep k.row fun c hc => hb.block c (k.row.lt c hc).2⟩
theorem PnS.shape {e : TypeId} {y : Nat} {F : Fo} {h : ByteArray} {N : List Iv} {i : Nat} {x : Value} {wr : World} (k : PnS e y F h N i x wr) : ∃ a c, x = .slice a (cutN F h (N.take i)).length c := by
  rcases k.row.2 with ⟨h1, h2⟩ | ⟨q, cap, cur, h1, _⟩
  · exact ⟨none, 0, by rw [h1, h2]⟩
  · exact ⟨_, _, h1⟩
theorem row_low {w : World} {e : TypeId} {lo lo' k m : Nat} {sv : Value} {xs : List Value} (h : w.ownsRow lo e k sv m xs) (hl : lo' ≤ lo) : w.ownsRow lo' e k sv m xs := by
  refine ⟨h.1, ?_⟩
  rcases h.2 with h | ⟨g, cap, cur, h1, h2, h3⟩
  · exact Or.inl h
  · exact Or.inr ⟨g, cap, cur, h1, Nat.le_trans hl h2, h3⟩
end FF
namespace Go.Proofs.YtegkhhegapnkpaaDoor
open FF JJ CC MM WW BB
/-- what the reference's Prune hands back -/
def RpruP (A : Nat → Prop) (wr : World) (R : Fo × Int) (u : Value) (w' : World) : Prop :=
  ∃ na' nn' nc' oa' ow' oc', u = .tuple #[.agg #[.string R.1.root, .int .i64 R.1.height, .slice na' nn' nc', .slice oa' ow' oc'], .int .i64 R.2] ∧ FoD (fun b => A b ∨ wr.heap.size ≤ b) w' R.1 (.slice na' nn' nc') (.slice oa' ow' oc') ∧ Below wr.heap.size wr w'
set_option maxRecDepth 100000 in
set_option maxHeartbeats 16000000 in
theorem fprune_any (A : Nat → Prop) (F : Fo) (h : ByteArray) (nv ov : Value) (w : World) (hd : FoD A w F nv ov) (hl : F.nodes.length ≤ 1000) (hh : 0 ≤ F.height ∧ F.height ≤ 1000000) :
    Calls Tryd.prog 29 #[.agg #[.string F.root, .int .i64 F.height, nv, ov], .string h] w fun e w' => ∃ u, e = .returned u ∧ RpruP A w (pruneF F h) u w' := by
  have HD := Lib.hid hd
  have HFO := Lib.hid hd.now
  have HLF := Lib.hid hl
  have HHT := Lib.hid hh
  obtain ⟨N, O, hN, hO, hdd⟩ := hd
  obtain ⟨hn, hoo⟩ := hdd.now
  have HN := Lib.hid hN
  have HDD := Lib.hid hdd
  have HIN := Lib.hid hn
  have HNL := Lib.hid (show N.length = F.nodes.length by rw [← hN, List.length_map])
  obtain ⟨na, nc, rfl⟩ := iv_shape hn
  obtain ⟨oa, oc, rfl⟩ := iv_shape hoo
  obtain ⟨g, hg⟩ : ∃ g, w.heap.size = g := ⟨_, rfl⟩
  have HG := Lib.hid hg
  have K0 := Lib.hid (PrB.mk2 w [.string F.root, .int .i64 F.height, .slice na N.length nc, .slice oa O.length oc] [.string ⟨#[]⟩, .int .i64 0, .slice none 0 0, .slice none 0 0] 54 54 rfl rfl)
  rw [hg] at K0
  have C4 := Lib.hid (show ∀ w', PrB w g (rowL [.string F.root, .int .i64 F.height, .slice na N.length nc, .slice oa O.length oc]) (rowL [.string ⟨#[]⟩, .int .i64 0, .slice none 0 0, .slice none 0 0]) w' → (w'.cell? ⟨g, 0, none⟩ = some (.string F.root) ∧ w'.cell? ⟨g, 1, none⟩ = some (.int .i64 F.height) ∧ w'.cell? ⟨g, 2, none⟩ = some (.slice na N.length nc) ∧ w'.cell? ⟨g, 3, none⟩ = some (.slice oa O.length oc)) from fun w' hS =>
    ⟨hS.a.get 0 (by omega), hS.a.get 1 (by omega), hS.a.get 2 (by omega), hS.a.get 3 (by omega)⟩)
  obtain ⟨FF1, hF1⟩ : ∃ f, rowL [.string F.root, .int .i64 F.height, .slice na N.length nc, .slice oa O.length oc] = f := ⟨_, rfl⟩
  obtain ⟨FF3, hF3⟩ : ∃ f, rowL [.string ⟨#[]⟩, .int .i64 0, .slice none 0 0, .slice none 0 0] = f := ⟨_, rfl⟩
  rw [hF1, hF3] at K0 C4
  clear hN hO hn hoo hl hdd hF1 hh hg
  have HF3 := Lib.hid hF3
  clear hF3
  by_cases hhas : hasF F h = true
  · rw [prune_yes hhas]
    have HH := Lib.hid hhas
    clear hhas
    go_enter Tryd.func29, Tryd.ntmps29
    go_wp2_with fail
    rw [HG.out]
    obtain ⟨w1, hw1⟩ : ∃ w1, (w.alloc (.cells #[.string F.root, .int .i64 F.height, .slice na N.length nc, .slice oa O.length oc] 54)).alloc (.cells #[.string ⟨#[]⟩, .int .i64 0, .slice none 0 0, .slice none 0 0] 54) = w1 := ⟨_, rfl⟩
    have K1 := Lib.hid (show PrB w g FF1 FF3 w1 by rw [← hw1]; exact K0.out)
    rw [hw1]
    clear hw1 K0
    refine (fhas_is F h true HH.out _ _ w1 (HFO.out.later K1.out.below) HLF.out).mono ?_
    rintro e w2 ⟨rfl, hb2⟩
    have K2 := Lib.hid (K1.out.on hb2)
    clear hb2 K1
    obtain ⟨c0, c1, c2, c3⟩ := C4.out _ K2.out
    go_wp2_with fail
    refine (fheight_any F h _ _ w2 (HFO.out.later K2.out.below) HLF.out HHT.out.1 HHT.out.2).mono ?_
    rintro e w3 ⟨rfl, hb3⟩
    have K3 := Lib.hid (K2.out.on hb3)
    clear hb3 K2 c0 c1 c2 c3
    go_wp2_with fail
    obtain ⟨y, hy⟩ : ∃ y, w3.heap.size = y := ⟨_, rfl⟩
    have HGY := Lib.hid (show g + 1 < y by rw [← hy]; exact K3.out.c.lt)
    have A4 := (Below.refl w3.heap.size w3).alloc (Nat.le_refl _) (.cells #[.string h, .int .i64 (heightF F h), .slice none 0 0, .slice none 0 0] 54)
    have S4 := Lib.hid (show PnS 140 y F h N 0 (.slice none 0 0) (w3.alloc (.cells #[.string h, .int .i64 (heightF F h), .slice none 0 0, .slice none 0 0] 54)) from ⟨Blk.new' hy.symm rfl, World.ownsRow_nil _ _ _ _⟩)
    have K4 := Lib.hid (K3.out.on A4)
    rw [hy]
    clear hy A4 K3
    go_loopw [7] (fun v wr => ∃ (i : Nat) (x : Value), i ≤ N.length ∧ v = .int .i64 (i : Int) ∧ PrB w g FF1 FF3 wr ∧ PnS 140 y F h N i x wr) (fun v _ => N.length - (intOf v).toNat)
    case atStart => exact ⟨0, _, Nat.zero_le _, rfl, K4.out, S4.out⟩
    case round =>
      clear K4 S4
      obtain ⟨i, x, hi, rfl, hK, hS⟩ := hrel
      have KR := Lib.hid hK
      have SR := Lib.hid hS
      obtain ⟨xa, xc, rfl⟩ := hS.shape
      have i0 : (0 : Int) ≤ (i : Int) := by omega
      have ib : (i : Int) ≤ 1000 := by have := HNL.out; have := HLF.out; omega
      obtain ⟨c0, c1, c2, c3⟩ := C4.out _ KR.out
      clear hK hS
      by_cases hlt : i < N.length
      · have hlt' : (i : Int) < (N.length : Int) := by omega
        have HLT := Lib.hid hlt
        obtain ⟨b, off, rfl, hbw, hcell⟩ : ∃ b off, na = some ⟨b, off, none⟩ ∧ b < w.heap.size ∧ (∀ i, i < N.length → (∀ j u, (encV (N.getD i v0))[j]? = some u → w.cell? ⟨b, off + i * 7 + j, none⟩ = some u) ∧ InnV w (N.getD i v0)) := by
          obtain ⟨a0, cap, he, hx | ⟨b, off, h1, h2, h3⟩⟩ := HIN.out
          · subst hx; simp at hlt
          · injection he with e1 _ _
            subst h1
            exact ⟨b, off, e1, h2, h3⟩
        have HBW := Lib.hid hbw
        have HCELL := Lib.hid hcell
        have HI := Lib.hid ((hcell i hlt).2)
        obtain ⟨Y, hY⟩ : ∃ Y, N.getD i v0 = Y := ⟨_, rfl⟩
        have HY := Lib.hid hY
        rw [hY] at HI
        obtain ⟨⟨dg, bd⟩, s5, s6⟩ := Y
        obtain ⟨e5, n5, h5⟩ := sl_of_sigs HI.out.1
        obtain ⟨e6, n6, h6⟩ := sl_of_reqs HI.out.2
        replace h5 : s5 = .slice e5 (sigsI bd).length n5 := h5
        replace h6 : s6 = .slice e6 bd.2.length n6 := h6
        subst h5 h6
        have HP := Lib.hid (show ∀ w', Below w.heap.size w w' → w'.cell? ⟨b, off + i * 7, none⟩ = some (.string dg) ∧ w'.cell? ⟨b, off + i * 7 + 1, none⟩ = some (.int .i64 (viewI bd)) ∧ w'.cell? ⟨b, off + i * 7 + 2, none⟩ = some (.int .i64 (propI bd)) ∧ w'.cell? ⟨b, off + i * 7 + 3, none⟩ = some (.int .i64 (jvI bd)) ∧ w'.cell? ⟨b, off + i * 7 + 4, none⟩ = some (.string (parI bd)) ∧ w'.cell? ⟨b, off + i * 7 + 5, none⟩ = some (.slice e5 (sigsI bd).length n5) ∧ w'.cell? ⟨b, off + i * 7 + 6, none⟩ = some (.slice e6 bd.2.length n6) from fun w' hb => by
          have := iv_cells hb HBW.out HCELL.out i HLT.out
          rw [HY.out] at this
          exact this)
        obtain ⟨bb, hbb⟩ : ∃ bb, (pathF F h dg).isSome = bb := ⟨_, rfl⟩
        have HBB := Lib.hid hbb
        clear hi hlt hbw hcell hY hbb
        go_upto_region 7 with fail
        clear c0 c1 c2 c3
        refine plan_abs (fun wx => Below wr.heap.size wr wx) [(true, 0), (true, 1), (true, 2), (true, 3), (true, 4), (true, 5), (true, 6), (true, 7), (false, 8), (true, 9), (true, 10), (true, 11), (true, 12), (true, 13)] (by kernel_rfl) (by kernel_rfl) (fun _ _ d _ _ h => by cases d <;> exact h) fun w5 hs5 => ⟨hs5.below _, ?_⟩
        have Y5 := Lib.hid (show Below wr.heap.size wr w5 from hs5.below _)
        clear hs5
        iterate 8 (refine pl_run _ ?_ rfl rfl ?_ ?_; rotate_left; (focus (intro w' hS; obtain ⟨c0, c1, c2, c3⟩ := C4.out w' (KR.out.on hS); obtain ⟨p0, p1, p2, p3, p4, p5, p6⟩ := HP.out w' (KR.out.on hS).below; go_simp; exact rfl)); simp only [Act.put, List.setIfInBounds_toArray, List.set_cons_zero, List.set_cons_succ, List.getElem_toArray, List.getElem_cons_zero, List.getElem_cons_succ])
        refine pl_call (R := fun u w' => (∃ v, u = .tuple #[v, .bool bb]) ∧ Below w5.heap.size w5 w') _ rfl rfl (by go_simp) ((fpath_any F h dg _ _ w5 (HFO.out.later (KR.out.on Y5.out).below) HLF.out).mono fun e w' hq => by obtain ⟨u, h1, _, h3⟩ := hq; exact ⟨_, h1, ⟨u, by rw [HBB.out]⟩, h3⟩) (fun u w' h => Y5.out.trans (h.2.mono Y5.out.size)) fun u w6 hr => ?_
        obtain ⟨⟨v, rfl⟩, hb6⟩ := hr
        have Y6 := Lib.hid (Y5.out.trans (hb6.mono Y5.out.size))
        clear hb6
        simp only [Act.put, List.setIfInBounds_toArray, List.set_cons_zero, List.set_cons_succ, List.getElem_toArray, List.getElem_cons_zero, List.getElem_cons_succ]
        iterate 5 (refine pl_run _ ?_ rfl rfl ?_ ?_; rotate_left; (focus (intro w' hS; go_simp; exact rfl)); simp only [Act.put, List.setIfInBounds_toArray, List.set_cons_zero, List.set_cons_succ, List.getElem_toArray, List.getElem_cons_zero, List.getElem_cons_succ])
        refine pl_end ?_
        have K6 := Lib.hid (KR.out.on Y6.out)
        have S6 := Lib.hid (SR.out.on Y6.out)
        clear KR SR Y5 Y6
        obtain ⟨c0, c1, c2, c3⟩ := C4.out _ K6.out
        obtain ⟨p0, p1, p2, p3, p4, p5, p6⟩ := HP.out _ K6.out.below
        have HTK := Lib.hid (take_stay (F := F) (h := h) HLT.out)
        cases bb
        · have HST := Lib.hid (show stayB F h (N.getD i v0) = false by rw [HY.out]; unfold stayB; rw [HBB.out]; rfl)
          go_wp2_with fail
          go_roundw
          case rel => exact ⟨i + 1, _, by have := HLT.out; omega, by go_num, K6.out, S6.out.blk, by rw [HTK.out, if_neg (by rw [HST.out]; simp), List.append_nil]; exact S6.out.row⟩
          case measure => have := HLT.out; simp [intOf]; omega
        · by_cases hdh : dg = h
          · have HST := Lib.hid (show stayB F h (N.getD i v0) = false by rw [HY.out]; unfold stayB; rw [decide_eq_false (fun c => c hdh)]; simp)
            have t1 : (dg.toList != h.toList) = false := by rw [hdh]; simp
            have t2 : (dg.toList == h.toList) = true := by rw [hdh]; simp
            have t3 : dg.toList = h.toList := by rw [hdh]
            clear hdh
            go_wp2_with fail
            go_roundw
            case rel => exact ⟨i + 1, _, by have := HLT.out; omega, by go_num, K6.out, S6.out.blk, by rw [HTK.out, if_neg (by rw [HST.out]; simp), List.append_nil]; exact S6.out.row⟩
            case measure => have := HLT.out; simp [intOf]; omega
          · have HST := Lib.hid (show stayB F h (N.getD i v0) = true by rw [HY.out]; unfold stayB; rw [HBB.out, decide_eq_true hdh]; rfl)
            have t1 : (dg.toList != h.toList) = true := by rw [bne, ba_beq hdh]; rfl
            have t2 := ba_beq hdh
            have t3 : ¬ dg.toList = h.toList := fun e => hdh (CC.ba_toList e)
            clear hdh
            go_upto_region 9 with fail
            clear t1 t2 t3 c0 c1 c2 c3 p0 p1 p2 p3 p4 p5 p6
            obtain ⟨L, hL⟩ : ∃ L, cutN F h (N.take i) = L := ⟨_, rfl⟩
            have HLL := Lib.hid hL
            have HLN := Lib.hid (show L.length ≤ 1000 by rw [← hL]; have := cut_len (F := F) (h := h) (N := N) i; have := HNL.out; have := HLF.out; omega)
            have HLI := Lib.hid (show ∀ x ∈ L, InnV w x from fun x hx => iv_inn HIN.out x (cut_sub x (hL ▸ hx)))
            have S6B := Lib.hid (show Blk w6 y 4 (rowL [.string h, .int .i64 (heightF F h), .slice xa L.length xc, .slice none 0 0]) ∧ w6.ownsRow (y + 1) 140 7 (.slice xa L.length xc) L.length (cellsV L) from hL ▸ ⟨S6.out.blk, S6.out.row⟩)
            have CY := Lib.hid (show ∀ w', Below w6.heap.size w6 w' → w'.cell? ⟨y, 2, none⟩ = some (.slice xa L.length xc) from fun w' hb => (S6B.out.1.below hb S6B.out.1.lt).get 2 (by omega))
            have HIX := Lib.hid (show ∀ w', Below w6.heap.size w6 w' → IvAt w' (.slice xa L.length xc) L from fun w' hb => iv_of_own (row_keep S6B.out.2 fun c hc => hb.block c (S6B.out.2.lt c hc).2) fun x hx => (HLI.out x hx).later (K6.out.on hb).below)
            have HENC := Lib.hid (show encV ((dg, bd), .slice e5 (sigsI bd).length n5, .slice e6 bd.2.length n6) = [.string dg, .int .i64 (viewI bd), .int .i64 (propI bd), .int .i64 (jvI bd), .string (parI bd), .slice e5 (sigsI bd).length n5, .slice e6 bd.2.length n6] from rfl)
            clear hL
            refine twoE_abs 12 [1, 2, 4, 5, 6, 7, 8] 0 3 9 50 53 59 [(false, 10), (true, 11), (false, 12)] _ _ _ 140 7 L.length (cellsV L) [.string dg, .int .i64 (viewI bd), .int .i64 (propI bd), .int .i64 (jvI bd), .string (parI bd), .slice e5 (sigsI bd).length n5, .slice e6 bd.2.length n6] (by kernel_rfl) (by kernel_rfl) (fun _ _ d _ _ h => by cases d <;> exact h) rfl rfl rfl ⟨rfl, rfl, rfl⟩ ⟨rfl, rfl, rfl⟩ ⟨by decide, by decide, by decide⟩ fun w7 hs7 => ?_
            have Y7 := Lib.hid (show Below w6.heap.size w6 w7 from hs7.below _)
            have K7 := Lib.hid (K6.out.on (hs7.below _))
            clear hs7
            obtain ⟨ti, i1, i2, i3, i4⟩ := info_parts info_item
            iterate 7 (refine pre_run _ ?_ rfl rfl ?_ ?_; rotate_left; (focus (intro w' hS; obtain ⟨c0, c1, c2, c3⟩ := C4.out w' (K7.out.on hS); have q2 := CY.out w' (Y7.out.trans (hS.mono Y7.out.size)); obtain ⟨p0, p1, p2, p3, p4, p5, p6⟩ := HP.out w' (K7.out.on hS).below; go_simp; exact rfl)); simp only [Act.put, List.setIfInBounds_toArray, List.set_cons_zero, List.set_cons_succ, List.getElem_toArray, List.getElem_cons_zero, List.getElem_cons_succ])
            refine pre_end ⟨?_, ?_, ?_, ?_⟩
            · rintro a' (rfl | ⟨x, rfl⟩) w' <;> go_simp
            · rintro a' (rfl | ⟨x, rfl⟩ | ⟨x, z, rfl⟩) w' hb <;> go_simp
            · rintro b' a' ha w' hb hown
              have BW := Y7.out.trans (hb.mono Y7.out.size)
              obtain ⟨v', w'', hr, ho, hgb, hob⟩ := run_append_arg0 (P := Tryd.prog) w7.heap.size 52 52 140 ti _ 7 104 und_items i1 i2 i3 i4 rfl (by decide) b' hown xa L.length xc (cellsV L) (cellsV_len L) (iv_none (HIX.out w' BW)) (iv_flat (HIX.out w' BW) (Below.refl _ _)) (cellsV_one fun x hx => HLI.out x hx) (by have := HLN.out; unfold maxLen; omega) (by have := HLN.out; omega) hb.size
              refine ⟨v', w'', ?_, ho, hgb, hob⟩
              rcases ha with rfl | ⟨x, rfl⟩ | ⟨x, rfl⟩
              all_goals exact JJ.run_op_append _ _ _ rfl _ _ rfl rfl hr
            · intro b' v' b7 w' hT
              have HTW := Lib.hid hT
              clear hT
              simp only [Act.put, List.setIfInBounds_toArray, List.set_cons_zero, List.set_cons_succ]
              obtain ⟨u8, w8, hr8, ho8, hg8, _⟩ := run_append_own (P := Tryd.prog) w' w7.heap.size 52 52 140 ti _ 7 104 und_items i1 i2 i3 i4 rfl (by decide) v' L.length (cellsV L) HTW.out.row ⟨b7, 0, none⟩ 1 1 [.string dg, .int .i64 (viewI bd), .int .i64 (propI bd), .int .i64 (jvI bd), .string (parI bd), .slice e5 (sigsI bd).length n5, .slice e6 bd.2.length n6] rfl (fun j u hj => by rw [Addr.add_lit, Nat.zero_add]; exact HTW.out.cell j u hj) (by rw [← HENC.out]; exact encV_one HI.out) (by have := HLN.out; unfold maxLen; omega) (by have := HLN.out; omega) HTW.out.below.size
              obtain ⟨ua, uc, rfl⟩ : ∃ ua uc, u8 = .slice ua (L.length + 1) uc := by
                rcases ho8.2 with ⟨_, h0⟩ | ⟨q, cp, cur, rfl, _⟩
                · omega
                · exact ⟨_, _, rfl⟩
              have O8 := Lib.hid (show w8.ownsRow w7.heap.size 140 7 (.slice ua (L.length + 1) uc) (L ++ [((dg, bd), Value.slice e5 (sigsI bd).length n5, Value.slice e6 bd.2.length n6)]).length (cellsV (L ++ [((dg, bd), Value.slice e5 (sigsI bd).length n5, Value.slice e6 bd.2.length n6)])) by
                rw [cellsV_snoc, HENC.out, List.length_append]; exact ho8)
              have B8 := Lib.hid (HTW.out.below.grown hg8 HTW.out.below.size (fun k hk => (HTW.out.row.lt k hk).1))
              have K8 := Lib.hid (K7.out.on B8.out)
              have Y8 := Lib.hid (Y7.out.trans (B8.out.mono Y7.out.size))
              have Q8 := Lib.hid (S6B.out.1.below Y8.out S6B.out.1.lt)
              have YL := Lib.hid (show y < w7.heap.size from Nat.lt_of_lt_of_le S6B.out.1.lt Y7.out.size)
              refine pe_value (w' := w8) _ _ rfl rfl (JJ.run_op_append _ _ _ rfl _ _ rfl rfl hr8) B8.out ?_
              clear hr8 ho8 hg8
              simp only [Act.put, List.setIfInBounds_toArray, List.set_cons_zero, List.set_cons_succ, List.getElem_toArray, List.getElem_cons_zero, List.getElem_cons_succ]
              iterate 1 (refine pe_run _ ?_ rfl rfl ?_ ?_; rotate_left; (focus (intro w' hS; go_simp; exact rfl)); simp only [Act.put, List.setIfInBounds_toArray, List.set_cons_zero, List.set_cons_succ, List.getElem_toArray, List.getElem_cons_zero, List.getElem_cons_succ])
              refine pe_last _ rfl ?_
              simp only [List.getElem_toArray, List.getElem_cons_zero, List.getElem_cons_succ]
              have q2 := CY.out _ Y8.out
              have f2 := Q8.out.frz 2
              have U9 := Lib.hid (Upd.set w8 y 2 (.slice ua (L.length + 1) uc))
              have K9 := Lib.hid (show PrB w g FF1 FF3 (w8.setCell ⟨y, 2, none⟩ (.slice ua (L.length + 1) uc)) from
                ⟨K8.out.below.trans (U9.out.below (by rw [HG.out]; have := HGY.out; omega)), K8.out.lo, K8.out.a.set_other _ _ (by show g ≠ y; have := HGY.out; omega), K8.out.c.set_other _ _ (by show g + 1 ≠ y; have := HGY.out; omega)⟩)
              have S9 := Lib.hid (show PnS 140 y F h N (i + 1) (.slice ua (L.length + 1) uc) (w8.setCell ⟨y, 2, none⟩ (.slice ua (L.length + 1) uc)) from ⟨(Q8.out.set 2 _).congr _ fun j hj => by match j, hj with | 0, _ => rfl | 1, _ => rfl | 2, _ => rfl | 3, _ => rfl, by
                rw [HTK.out, if_pos HST.out, HY.out, HLL.out]
                exact row_low (row_keep O8.out fun c hc => Below.heap_setCell _ _ _ c (by show c ≠ y; have := (O8.out.lt c hc).1; have := YL.out; omega)) (by have := YL.out; omega)⟩)
              go_wp2_with fail
              clear q2 f2
              go_roundw
              case rel => exact ⟨i + 1, _, by have := HLT.out; omega, by go_num, K9.out, S9.out⟩
              case measure => have := HLT.out; simp [intOf]; omega
      · obtain rfl : i = N.length := by omega
        have hlt' : ¬ ((N.length : Nat) : Int) < (N.length : Int) := by omega
        clear hi hlt
        obtain ⟨L, hL⟩ : ∃ L, cutN F h N = L := ⟨_, rfl⟩
        have HLL := Lib.hid hL
        have SB := Lib.hid (show Blk wr y 4 (rowL [.string h, .int .i64 (heightF F h), .slice xa L.length xc, .slice none 0 0]) ∧ wr.ownsRow (y + 1) 140 7 (.slice xa L.length xc) L.length (cellsV L) from by
          have h1 := SR.out.blk
          have h2 := SR.out.row
          rw [List.take_length, hL] at h1 h2
          exact ⟨h1, h2⟩)
        clear hL SR
        have d0 : _ = some (Value.string h) := SB.out.1.get 0 (by omega)
        have d1 : _ = some (Value.int .i64 (heightF F h)) := SB.out.1.get 1 (by omega)
        have d2 : _ = some (Value.slice xa L.length xc) := SB.out.1.get 2 (by omega)
        have d3 : _ = some (Value.slice none 0 0) := SB.out.1.get 3 (by omega)
        have r0 := KR.out.c.get 0 (by omega)
        have r1 := KR.out.c.get 1 (by omega)
        have r2 := KR.out.c.get 2 (by omega)
        have r3 := KR.out.c.get 3 (by omega)
        have z0 := KR.out.c.frz 0
        have z1 := KR.out.c.frz 1
        have z2 := KR.out.c.frz 2
        have z3 := KR.out.c.frz 3
        go_wp2_with fail
        clear c0 c1 c2 c3 d0 d1 d2 d3 r0 r1 r2 r3 z0 z1 z2 z3
        obtain ⟨⟨q0, q1, q2, q3⟩, qu⟩ := set4 KR.out.c (.string h) (.int .i64 (heightF F h)) (.slice xa L.length xc) (.slice none 0 0)
        have BF := KR.out.below.trans (qu.below (by rw [HG.out]; omega))
        refine bodyPost_ret (v := .tuple #[.agg #[.string h, .int .i64 (heightF F h), .slice xa L.length xc, .slice none 0 0], .int .i64 0]) (by simp [results, Tryd.results29, go_sem, q0, q1, q2, q3]) rfl ⟨_, rfl, xa, _, xc, none, 0, 0, rfl, ?_, BF⟩
        refine ⟨L, [], by rw [← HLL.out]; exact cutN_map HN.out, rfl, ?_⟩
        intro w'' hk
        have KK := (Keeps.of BF).trans (hk.sub fun b h _ => Or.inl h)
        obtain ⟨e3, e4⟩ := HDD.out w'' KK
        refine ⟨iv_of_own (row_keep SB.out.2 fun c hc => ?_) fun x hx => ?_, iv_nil _ _ _⟩
        · have hc4 := SB.out.2.lt c hc
          have := HGY.out
          rw [hk.block c (Or.inr (by rw [HG.out]; omega)) (by rw [qu.size]; exact hc4.2), qu.block c (by omega)]
        · rw [← HLL.out] at hx
          exact iv_inn e3 x (List.mem_filter.1 hx).1
  · have hf : hasF F h = false := by simpa using hhas
    rw [prune_no hf]
    have HH := Lib.hid hf
    clear hhas hf
    go_enter Tryd.func29, Tryd.ntmps29
    go_wp2_with fail
    rw [HG.out]
    obtain ⟨w1, hw1⟩ : ∃ w1, (w.alloc (.cells #[.string F.root, .int .i64 F.height, .slice na N.length nc, .slice oa O.length oc] 54)).alloc (.cells #[.string ⟨#[]⟩, .int .i64 0, .slice none 0 0, .slice none 0 0] 54) = w1 := ⟨_, rfl⟩
    have K1 := Lib.hid (show PrB w g FF1 FF3 w1 by rw [← hw1]; exact K0.out)
    rw [hw1]
    clear hw1 K0
    refine (fhas_is F h false HH.out _ _ w1 (HFO.out.later K1.out.below) HLF.out).mono ?_
    rintro e w2 ⟨rfl, hb2⟩
    have K2 := Lib.hid (K1.out.on hb2)
    clear hb2 K1
    obtain ⟨c0, c1, c2, c3⟩ := C4.out _ K2.out
    have r0 := K2.out.c.get 0 (by omega)
    have r1 := K2.out.c.get 1 (by omega)
    have r2 := K2.out.c.get 2 (by omega)
    have r3 := K2.out.c.get 3 (by omega)
    have z0 := K2.out.c.frz 0
    have z1 := K2.out.c.frz 1
    have z2 := K2.out.c.frz 2
    have z3 := K2.out.c.frz 3
    go_wp2_with fail
    clear c0 c1 c2 c3 r0 r1 r2 r3 z0 z1 z2 z3
    obtain ⟨⟨q0, q1, q2, q3⟩, qu⟩ := set4 K2.out.c (.string F.root) (.int .i64 F.height) (.slice na N.length nc) (.slice oa O.length oc)
    have BF := K2.out.below.trans (qu.below (by rw [HG.out]; omega))
    refine bodyPost_ret (v := .tuple #[.agg #[.string F.root, .int .i64 F.height, .slice na N.length nc, .slice oa O.length oc], .int .i64 10]) (by simp [results, Tryd.results29, go_sem, q0, q1, q2, q3]) rfl ⟨_, rfl, na, _, nc, oa, _, oc, rfl, (HD.out.on (Keeps.of BF)).more fun b h _ => Or.inl h, BF⟩
end Go.Proofs.YtegkhhegapnkpaaDoor
end
section
open Go Go.RowKit
namespace FF
open WW BB
theorem stand_sub {F : Fo} {x : It} : ∀ y ∈ (standF F x).1.nodes, y ∈ F.nodes ∨ y = x := by
  unfold standF
  split
  · exact fun y hy => Or.inl hy
  · split
    · exact fun y hy => Or.inl hy
    · intro y hy
      rcases List.mem_append.1 hy with h | h
      · exact Or.inl h
      · exact Or.inr (by simpa using h)
theorem adopt_sub : ∀ (m : Nat) (F : Fo), ∀ y ∈ (adoptF m F).nodes ++ (adoptF m F).orph, y ∈ F.nodes ++ F.orph
  | 0, F => fun y hy => hy
  | m + 1, F => by
    unfold adoptF
    split
    · exact fun y hy => hy
    · rename_i i hi
      intro y hy
      have h1 := adopt_sub m _ y hy
      obtain ⟨hil, _⟩ := gready_some hi
      rcases List.mem_append.1 h1 with h | h
      · rcases stand_sub y h with h | h
        · exact List.mem_append_left _ h
        · subst h
          refine List.mem_append_right _ ?_
          rw [getD_at hil]; exact List.getElem_mem hil
      · rw [stand_orph'] at h
        exact List.mem_append_right _ ((List.eraseIdx_sublist _ _).subset h)
theorem put_sub {F : Fo} {x : It} : ∀ y ∈ (putF F x).1.nodes ++ (putF F x).1.orph, y ∈ F.nodes ++ F.orph ∨ y = x := by
  unfold putF
  split
  · exact fun y hy => Or.inl hy
  · split
    · split
      · exact fun y hy => Or.inl hy
      · intro y hy
        have hy : y ∈ F.nodes ++ (F.orph ++ [x]) := hy
        rw [← List.append_assoc] at hy
        rcases List.mem_append.1 hy with h | h
        · exact Or.inl h
        · exact Or.inr (by simpa using h)
    · split
      · exact fun y hy => Or.inl hy
      · intro y hy
        rcases List.mem_append.1 (adopt_sub _ _ y hy) with h | h
        · rcases stand_sub y h with h | h
          · exact Or.inl (List.mem_append_left _ h)
          · exact Or.inr h
        · rw [stand_orph'] at h
          exact Or.inl (List.mem_append_right _ h)
theorem put_dig {F : Fo} {b : BlockD} (h : DigF F) : DigF (putF F (digI b, b)).1 := fun y hy => by
  rcases put_sub y hy with h1 | h1
  · exact h y h1
  · rw [h1]
theorem prune_dig {F : Fo} {h : ByteArray} (hd : DigF F) : DigF (pruneF F h).1 := fun y hy => by
  unfold pruneF at hy
  split at hy
  · exact hd y hy
  · have hy : y ∈ F.nodes.filter _ ++ [] := hy
    rw [List.append_nil] at hy
    exact hd y (List.mem_append_left _ (List.mem_filter.1 hy).1)
theorem prune_wf {F : Fo} {h : ByteArray} (hF : WF F) : WF (pruneF F h).1 := by
  cases hh : hasF F h with
  | false => unfold pruneF; rw [if_pos hh]; exact hF
  | true =>
    have : pruneF F h = (cutF F h, 0) := by unfold pruneF; rw [if_neg (by rw [hh]; simp)]; rfl
    rw [this]; exact cut_wf hF hh
theorem height_bound {F : Fo} (hF : WF F) {h : ByteArray} (hh : hasF F h = true) : F.height ≤ heightF F h ∧ heightF F h ≤ F.height + 400 := by
  have a := anc_of hF hh
  rw [height_is hF a]
  have h1 := a.ne
  have h2 := anc_len F h
  have := hF.n400
  omega
theorem prune_height {F : Fo} {h : ByteArray} (hF : WF F) : F.height ≤ (pruneF F h).1.height ∧ (pruneF F h).1.height ≤ F.height + 400 := by
  cases hh : hasF F h with
  | false =>
    have : pruneF F h = (F, 10) := by unfold pruneF; rw [if_pos hh]
    rw [this]; exact ⟨Int.le_refl _, by show F.height ≤ F.height + 400; omega⟩
  | true =>
    have : pruneF F h = (cutF F h, 0) := by unfold pruneF; rw [if_neg (by rw [hh]; simp)]; rfl
    rw [this]; exact height_bound hF hh
/-- a call of the law: a pruning, or a block that is put -/
def opF (F : Fo) (p : Bool) (b : BlockD) : Fo × Int := if p then pruneF F (digI b) else putF F (digI b, b)
/-- what is kept of the forest from call to call -/
structure OkF (F : Fo) (i : Nat) : Prop where
  wf : WF F
  dig : DigF F
  lo : 0 ≤ F.height
  hi : F.height ≤ 400 * (i : Int)
theorem OkF.step {F : Fo} {i : Nat} (h : OkF F i) (p : Bool) (b : BlockD) : OkF (opF F p b).1 (i + 1) := by
  cases p
  · show OkF (putF F (digI b, b)).1 (i + 1)
    obtain ⟨_, e2⟩ := put_root F (digI b, b)
    refine ⟨put_wf h.wf (dig_size b), put_dig h.dig, by rw [e2]; exact h.lo, ?_⟩
    rw [e2]; have := h.hi; omega
  · show OkF (pruneF F (digI b)).1 (i + 1)
    obtain ⟨h1, h2⟩ := prune_height (h := digI b) h.wf
    refine ⟨prune_wf h.wf, prune_dig h.dig, ?_, ?_⟩
    · have := h.lo; omega
    · have := h.hi; omega
theorem OkF.new (r : ByteArray) (h : r.size = 32) : OkF ⟨r, 0, [], []⟩ 0 := ⟨new_wf r h, (fun x hx => by cases hx), Int.le_refl _, by show (0 : Int) ≤ 400 * ((0 : Nat) : Int); omega⟩
end FF
namespace Go.Proofs.YtegkhhegapnkpaaDoor
open FF JJ CC MM WW BB
/-- another forest lies in a box y of its own -/
structure TwY (B g r y : Nat) (F G G' : Fo) (wr : World) (rt : ByteArray) (mv ov : Value) (N O : List Iv) (C : Nat → Prop) (na : Option Addr) (nn nc : Nat) (oa : Option Addr) (ow oc : Nat) (ma : Option Addr) (mn mc : Nat) (qa : Option Addr) (qw qc : Nat) : Prop where
  m : TwM B g r F G wr rt mv ov N O C na nn nc oa ow oc
  blk : Blk wr y 4 (rowL [.string G'.root, .int .i64 G'.height, .slice ma mn mc, .slice qa qw qc])
  fo : FoD (fun b => AwayP g r mv ov C b ∧ b ≠ y) wr G' (.slice ma mn mc) (.slice qa qw qc)
  ny : ¬ MineB g mv ov C y
  yr : y ≠ r
  wf : WF G'
section
variable {B g r y : Nat} {F G G' F' : Fo} {wr w2 : World} {rt rt' : ByteArray} {mv ov mv' ov' : Value} {N O N' O' : List Iv} {C C' : Nat → Prop} {na : Option Addr} {nn nc : Nat} {oa : Option Addr} {ow oc : Nat} {ma : Option Addr} {mn mc : Nat} {qa : Option Addr} {qw qc : Nat}
theorem TwY.on (h : TwY B g r y F G G' wr rt mv ov N O C na nn nc oa ow oc ma mn mc qa qw qc) (hb : Below wr.heap.size wr w2) : TwY B g r y F G G' w2 rt mv ov N O C na nn nc oa ow oc ma mn mc qa qw qc :=
  ⟨h.m.on hb, h.blk.below hb h.blk.lt, h.fo.on (Keeps.of hb), h.ny, h.yr, h.wf⟩
/-- the code's forest turns -/
theorem TwY.step (h : TwY B g r y F G G' wr rt mv ov N O C na nn nc oa ow oc ma mn mc qa qw qc) (hc : CFs B w2 g F' rt' mv' ov' N' O' C') (hk : Keeps (fun b => ¬ MineB g mv ov C b) wr w2) (hn : ∀ b, MineB g mv' ov' C' b → MineB g mv ov C b ∨ wr.heap.size ≤ b) (hNT : ∀ b, B ≤ b → NoTab b) :
    TwY B g r y F' G G' w2 rt' mv' ov' N' O' C' na nn nc oa ow oc ma mn mc qa qw qc := by
  have hrl := h.m.blk.lt
  have hyl := h.blk.lt
  have hnr : ¬ MineB g mv ov C r := fun c => h.m.ne r c rfl
  refine ⟨⟨hc, fun c hm => ?_, h.m.blk.of_heap (hk.block r hnr hrl), (h.m.fo.cut.on (hk.sub fun c hc _ => hc.1.1)).more fun c hc _ => ⟨fun hmc => ?_, hc.1.2⟩, h.m.wf, h.m.rB, tabs_keeps h.m.tabs hk fun c => ?_⟩,
    h.blk.of_heap (hk.block y h.ny hyl), (h.fo.cut.on (hk.sub fun c hc _ => hc.1.1.1)).more fun c hc _ => ⟨⟨fun hmc => ?_, hc.1.1.2⟩, hc.1.2⟩, fun hmc => ?_, h.yr, h.wf⟩
  · rcases hn c hm with hm | hm
    · exact h.m.ne c hm
    · omega
  · rcases hn c hmc with h1 | h1
    · exact hc.1.1 h1
    · have := hc.2; omega
  · by_cases hmc : MineB g mv ov C c
    · exact Or.inl (hNT c (h.m.code.ownB c hmc))
    · exact Or.inr hmc
  · rcases hn c hmc with h1 | h1
    · exact hc.1.1.1 h1
    · have := hc.2; omega
  · rcases hn y hmc with h1 | h1
    · exact h.ny h1
    · omega
/-- what lies in the box y is stored in r -/
theorem TwY.moved (h : TwY B g r y F G G' wr rt mv ov N O C na nn nc oa ow oc ma mn mc qa qw qc) (hu : Upd r wr w2) (hb : Blk w2 r 4 (rowL [.string G'.root, .int .i64 G'.height, .slice ma mn mc, .slice qa qw qc])) (hNT : NoTab r) : TwM B g r F G' w2 rt mv ov N O C ma mn mc qa qw qc := by
  have hk : ∀ {A : Nat → Prop}, (∀ b, A b → b ≠ r) → Keeps A wr w2 := fun hA => Keeps.upd hu hA
  exact ⟨h.m.code.keep (hk h.m.ne), h.m.ne, hb, (h.fo.on (hk fun b hb => hb.1.2)).more fun b hb _ => hb.1, h.wf, h.m.rB, tabs_keeps h.m.tabs (A := fun b => b ≠ r) (hk fun _ hb => hb) fun b => if e : b = r then Or.inl (e ▸ hNT) else Or.inr e⟩
end
/-- both forests, and another one in y -/
def TwYs (w0 : World) (g r y : Nat) (F G G' : Fo) (wr : World) : Prop :=
  (∃ rt mv ov N O C na nn nc oa ow oc ma mn mc qa qw qc, TwY w0.heap.size g r y F G G' wr rt mv ov N O C na nn nc oa ow oc ma mn mc qa qw qc) ∧ Below w0.heap.size w0 wr
/-- the reference's answer has been laid in a new box y: wz: ahead of the call, w1: behind it -/
theorem twy_laid {w0 : World} {g r : Nat} {F G G' : Fo} {wr w1 : World} {rt : ByteArray} {mv ov : Value} {N O : List Iv} {C : Nat → Prop} {na : Option Addr} {nn nc : Nat} {oa : Option Addr} {ow oc : Nat} (h : TwM w0.heap.size g r F G wr rt mv ov N O C na nn nc oa ow oc) (hb0 : Below w0.heap.size w0 wr)
    {ma : Option Addr} {mn mc : Nat} {qa : Option Addr} {qw qc : Nat} (hf : FoD (fun b => (AwayP g r mv ov C b ∧ b < wr.heap.size) ∨ wr.heap.size ≤ b) w1 G' (.slice ma mn mc) (.slice qa qw qc)) (hb : Below wr.heap.size wr w1) (hw : WF G') {w2 : World} (hb2 : Below w1.heap.size w1 w2)
    (hblk : Blk w2 w1.heap.size 4 (rowL [.string G'.root, .int .i64 G'.height, .slice ma mn mc, .slice qa qw qc])) : TwYs w0 g r w1.heap.size F G G' w2 := by
  have hrl := h.blk.lt
  have hz := hb.size
  refine ⟨⟨rt, mv, ov, N, O, C, na, nn, nc, oa, ow, oc, ma, mn, mc, qa, qw, qc, h.on (hb.trans (hb2.mono hz)), hblk, (hf.cut.on (Keeps.of hb2)).more fun b hc _ => ?_, fun hm => ?_, by omega, hw⟩, hb0.trans ((hb.trans (hb2.mono hz)).mono hb0.size)⟩
  · obtain ⟨hc, hl⟩ := hc
    refine ⟨?_, by omega⟩
    rcases hc with hc | hc
    · exact hc.1
    · exact ⟨fun hm => by have := h.code.ownL b hm; omega, by omega⟩
  · have := h.code.ownL _ hm; omega
end Go.Proofs.YtegkhhegapnkpaaDoor
end
