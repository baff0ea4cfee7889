/-
  The walk of the reference's Put.
-/
import Derived.Test.YtegkhhegapnkpaaDoorKFNew
import Derived.Test.YtegkhhegapnkpaaDoorKJFirst
import Derived.Test.YtegkhhegapnkpaaDoorKPlanG
open Go Go.RowKit
namespace FF
open WW BB
/-- a block's digest -/
def digI (b : BlockD) : ByteArray := JJ.digD (viewI b) (propI b) (jvI b) (parI b) b.2
/-- the call's three boxes: the forest, the block, the result -/
structure PqS (w : World) (g : Nat) (f1 f2 f3 : Nat → Value) (w' : World) : Prop where
  below : Below w.heap.size w w'
  lo : w.heap.size = g
  a : Blk w' g 4 f1
  b : Blk w' (g + 1) 6 f2
  c : Blk w' (g + 1 + 1) 4 f3
theorem PqS.on {w : World} {g : Nat} {f1 f2 f3 : Nat → Value} {w1 w2 : World} (h : PqS w g f1 f2 f3 w1) (hb : Below w1.heap.size w1 w2) : PqS w g f1 f2 f3 w2 :=
  ⟨h.below.trans (hb.mono h.below.size), h.lo, h.a.below hb h.a.lt, h.b.below hb h.b.lt, h.c.below hb h.c.lt⟩
theorem PqS.mk3 (w : World) (cs ds es : List Value) (t u s : TypeId) (h1 : cs.toArray = row 4 (rowL cs)) (h2 : ds.toArray = row 6 (rowL ds)) (h3 : es.toArray = row 4 (rowL es)) : PqS w w.heap.size (rowL cs) (rowL ds) (rowL es) (((w.alloc (.cells cs.toArray t)).alloc (.cells ds.toArray u)).alloc (.cells es.toArray s)) := by
  have b1 := (Below.refl w.heap.size w).alloc (Nat.le_refl _) (.cells cs.toArray t)
  have b2 := b1.alloc b1.size (.cells ds.toArray u)
  have b3 := b2.alloc b2.size (.cells es.toArray s)
  refine ⟨b3, rfl, ((Blk.new' rfl h1).alloc _).alloc _, (Blk.new' (by simp) h2).alloc _, Blk.new' (by simp) h3⟩
/-- an item is written whole -/
theorem set7 {w : World} {a : Nat} {f : Nat → Value} (h : Blk w a 7 f) (u0 u1 u2 u3 u4 u5 u6 : Value) :
    Blk (((((((w.setCell ⟨a, 0, none⟩ u0).setCell ⟨a, 1, none⟩ u1).setCell ⟨a, 2, none⟩ u2).setCell ⟨a, 3, none⟩ u3).setCell ⟨a, 4, none⟩ u4).setCell ⟨a, 5, none⟩ u5).setCell ⟨a, 6, none⟩ u6) a 7 (rowL [u0, u1, u2, u3, u4, u5, u6]) ∧
    Upd a w (((((((w.setCell ⟨a, 0, none⟩ u0).setCell ⟨a, 1, none⟩ u1).setCell ⟨a, 2, none⟩ u2).setCell ⟨a, 3, none⟩ u3).setCell ⟨a, 4, none⟩ u4).setCell ⟨a, 5, none⟩ u5).setCell ⟨a, 6, none⟩ u6) := by
  refine ⟨(((((((h.set 0 u0).set 1 u1).set 2 u2).set 3 u3).set 4 u4).set 5 u5).set 6 u6).congr _ fun i hi => ?_, (((((((Upd.refl a w).trans (Upd.set _ _ _ _)).trans (Upd.set _ _ _ _)).trans (Upd.set _ _ _ _)).trans (Upd.set _ _ _ _)).trans (Upd.set _ _ _ _)).trans (Upd.set _ _ _ _)).trans (Upd.set _ _ _ _)⟩
  match i, hi with
  | 0, _ => rfl
  | 1, _ => rfl
  | 2, _ => rfl
  | 3, _ => rfl
  | 4, _ => rfl
  | 5, _ => rfl
  | 6, _ => rfl
end FF
namespace Go.Proofs.YtegkhhegapnkpaaDoor
open FF JJ CC WW BB
set_option maxRecDepth 100000 in
set_option maxHeartbeats 16000000 in
theorem fput_any (A : Nat → Prop) (F : Fo) (b : BlockD) (sv rv nv ov : Value) (w : World) (hd : FoD A w F nv ov) (hdx : Dep A w (fun w' => SigsAt w' sv (sigsI b) ∧ ReqsAt w' rv b.2)) (hl : F.nodes.length ≤ 1000) (ho : F.orph.length ≤ 1000) (hk : (parI b).size ≤ 1000) (hs : SmallS (sigsI b)) (hm : SmallR b.2) :
    Calls Tryd.prog 31 #[.agg #[.string F.root, .int .i64 F.height, nv, ov], .agg #[.int .i64 (viewI b), .int .i64 (propI b), .int .i64 (jvI b), .string (parI b), sv, rv]] w fun e w' =>
      ∃ nv' ov', e = .returned (.tuple #[.agg #[.string F.root, .int .i64 F.height, nv', ov'], .int .i64 (putF F (digI b, b)).2]) ∧ FoD (fun b => A b ∨ w.heap.size ≤ b) w' (putF F (digI b, b)).1 nv' ov' ∧ Below w.heap.size w w' := by
  have HD := Lib.hid hd
  have HFO := Lib.hid hd.now
  have HLF := Lib.hid hl
  have HOF := Lib.hid ho
  have HDX := Lib.hid hdx
  have HSX := Lib.hid hdx.now
  have HDG := Lib.hid (fun wx (h : SigsAt wx sv (sigsI b) ∧ ReqsAt wx rv b.2) => rbdigest_any (viewI b) (propI b) (jvI b) (parI b) sv rv (sigsI b) b.2 wx h.1 h.2 hk hs hm)
  obtain ⟨N, O, hN, hO, hdd⟩ := hd
  obtain ⟨hn, hoo⟩ := hdd.now
  have HN := Lib.hid hN
  have HO := Lib.hid hO
  have HDD := Lib.hid hdd
  have HIO := Lib.hid hoo
  have HOL := Lib.hid (show O.length = F.orph.length by rw [← hO, List.length_map])
  have HL := Lib.hid (show O.length ≤ 1000 by rw [← hO, List.length_map] at ho; exact ho)
  obtain ⟨na, nc, rfl⟩ := iv_shape hn
  obtain ⟨oa, oc, rfl⟩ := iv_shape hoo
  obtain ⟨sa, sc, rfl⟩ := sl_of_sigs hdx.now.1
  obtain ⟨ra, rc, rfl⟩ := sl_of_reqs hdx.now.2
  obtain ⟨Y, hY⟩ : ∃ Y, putF F (digI b, b) = Y := ⟨_, rfl⟩
  have HY := Lib.hid hY
  obtain ⟨H, hH⟩ : ∃ H, digI b = H := ⟨_, rfl⟩
  have HH := Lib.hid hH
  obtain ⟨V, hV⟩ : ∃ V, viewI b = V := ⟨_, rfl⟩
  obtain ⟨PR, hPR⟩ : ∃ PR, propI b = PR := ⟨_, rfl⟩
  obtain ⟨JV, hJV⟩ : ∃ JV, jvI b = JV := ⟨_, rfl⟩
  obtain ⟨K, hK⟩ : ∃ K, parI b = K := ⟨_, rfl⟩
  obtain ⟨m1, hm1⟩ : ∃ m, (sigsI b).length = m := ⟨_, rfl⟩
  obtain ⟨m2, hm2⟩ : ∃ m, b.2.length = m := ⟨_, rfl⟩
  have HDH := Lib.hid (show digD V PR JV K b.2 = H by rw [← hV, ← hPR, ← hJV, ← hK, ← hH]; rfl)
  have HVS := Lib.hid (show viewI b = V ∧ propI b = PR ∧ jvI b = JV ∧ parI b = K ∧ (sigsI b).length = m1 ∧ b.2.length = m2 from ⟨hV, hPR, hJV, hK, hm1, hm2⟩)
  rw [hV, hPR, hJV, hK, hm1, hm2] at HDG
  rw [hm1, hm2] at HDX HSX
  rw [hY, hV, hPR, hJV, hK, hm1, hm2]
  clear hN hO hn hoo hl ho hdx hdd hk hs hm hY hH hV hPR hJV hK hm1 hm2
  obtain ⟨g, hg⟩ : ∃ g, w.heap.size = g := ⟨_, rfl⟩
  have HG := Lib.hid hg
  have K0 := Lib.hid (PqS.mk3 w [.string F.root, .int .i64 F.height, .slice na N.length nc, .slice oa O.length oc] [.int .i64 V, .int .i64 PR, .int .i64 JV, .string K, .slice sa m1 sc, .slice ra m2 rc] [.string ⟨#[]⟩, .int .i64 0, .slice none 0 0, .slice none 0 0] 54 29 54 rfl rfl rfl)
  go_enter Tryd.func31, Tryd.ntmps31
  go_upto_region 1 with fail
  rw [hg] at K0
  generalize hw1 : ((w.alloc (.cells #[.string F.root, .int .i64 F.height, .slice na N.length nc, .slice oa O.length oc] 54)).alloc (.cells #[.int .i64 V, .int .i64 PR, .int .i64 JV, .string K, .slice sa m1 sc, .slice ra m2 rc] 29)).alloc (.cells #[.string ⟨#[]⟩, .int .i64 0, .slice none 0 0, .slice none 0 0] 54) = w1
  have K1 := Lib.hid (show PqS w g (rowL [.string F.root, .int .i64 F.height, .slice na N.length nc, .slice oa O.length oc]) (rowL [.int .i64 V, .int .i64 PR, .int .i64 JV, .string K, .slice sa m1 sc, .slice ra m2 rc]) (rowL [.string ⟨#[]⟩, .int .i64 0, .slice none 0 0, .slice none 0 0]) w1 by rw [← hw1]; exact K0.out)
  clear hw1 K0 hg
  obtain ⟨FF1, hF1⟩ : ∃ f, rowL [.string F.root, .int .i64 F.height, .slice na N.length nc, .slice oa O.length oc] = f := ⟨_, rfl⟩
  obtain ⟨FF2, hF2⟩ : ∃ f, rowL [.int .i64 V, .int .i64 PR, .int .i64 JV, .string K, .slice sa m1 sc, .slice ra m2 rc] = f := ⟨_, rfl⟩
  obtain ⟨FF3, hF3⟩ : ∃ f, rowL [.string ⟨#[]⟩, .int .i64 0, .slice none 0 0, .slice none 0 0] = f := ⟨_, rfl⟩
  have E1 := Lib.hid hF1
  have E2 := Lib.hid hF2
  rw [hF1, hF2, hF3] at K1
  clear hF1 hF2 hF3
  have C4 := Lib.hid (show ∀ w', PqS w g FF1 FF2 FF3 w' → (w'.cell? ⟨g, 0, none⟩ = some (.string F.root) ∧ w'.cell? ⟨g, 1, none⟩ = some (.int .i64 F.height) ∧ w'.cell? ⟨g, 2, none⟩ = some (.slice na N.length nc) ∧ w'.cell? ⟨g, 3, none⟩ = some (.slice oa O.length oc)) from fun w' hS => by
    rw [hS.a.get 0 (by omega), hS.a.get 1 (by omega), hS.a.get 2 (by omega), hS.a.get 3 (by omega), ← E1.out]; exact ⟨rfl, rfl, rfl, rfl⟩)
  have C6 := Lib.hid (show ∀ w', PqS w g FF1 FF2 FF3 w' → (w'.cell? ⟨g + 1, 0, none⟩ = some (.int .i64 V) ∧ w'.cell? ⟨g + 1, 1, none⟩ = some (.int .i64 PR) ∧ w'.cell? ⟨g + 1, 2, none⟩ = some (.int .i64 JV) ∧ w'.cell? ⟨g + 1, 3, none⟩ = some (.string K) ∧ w'.cell? ⟨g + 1, 4, none⟩ = some (.slice sa m1 sc) ∧ w'.cell? ⟨g + 1, 5, none⟩ = some (.slice ra m2 rc)) from fun w' hS => by
    rw [hS.b.get 0 (by omega), hS.b.get 1 (by omega), hS.b.get 2 (by omega), hS.b.get 3 (by omega), hS.b.get 4 (by omega), hS.b.get 5 (by omega), ← E2.out]; exact ⟨rfl, rfl, rfl, rfl, rfl, rfl⟩)
  go_cut [6] from 6 to 12 (fun s6 wx => ∃ y, s6 = .pointer (some ⟨y, 0, none⟩) ∧ PqS w g FF1 FF2 FF3 wx ∧ Blk wx y 7 (rowL [.string H, .int .i64 V, .int .i64 PR, .int .i64 JV, .string K, .slice sa m1 sc, .slice ra m2 rc]) ∧ g + 1 + 1 < y)
  case first =>
    go_wp2_with fail
    refine crossE_abs (PqS w g FF1 FF2 FF3) 5 [0, 2] 1 4 [(true, 3), (false, 4), (false, 5)] [(false, 1), (true, 3), (false, 5)] (by kernel_rfl) (by kernel_rfl) (fun _ _ d _ _ h => by cases d <;> exact h) fun w2 hs2 => ⟨K1.out.on (hs2.below _), ?_⟩
    have K2 := Lib.hid (K1.out.on (hs2.below _))
    clear hs2
    iterate 2 (refine pre_run _ ?_ rfl rfl ?_ ?_; rotate_left; (focus (intro w' hS; obtain ⟨d0, d1, d2, d3, d4, d5⟩ := C6.out w' hS; go_simp; exact rfl)); simp only [Act.put, List.setIfInBounds_toArray, List.set_cons_zero, List.set_cons_succ, List.getElem_toArray, List.getElem_cons_zero, List.getElem_cons_succ])
    refine pre_end ⟨?_, ?_⟩
    · refine pe_call (R := fun v w' => v = .string H ∧ Below w2.heap.size w2 w') _ rfl rfl (by go_simp) ((HDG.out w2 ⟨HSX.out.1.later K2.out.below, HSX.out.2.later K2.out.below⟩).mono fun e w' h => ⟨.string H, by rw [h.1, HDH.out], rfl, h.2⟩) (fun v w' h => K2.out.on h.2) fun v w3 hr => ?_
      obtain ⟨rfl, hb⟩ := hr
      have K3 := Lib.hid (K2.out.on hb)
      clear hb
      simp only [Act.put, List.setIfInBounds_toArray, List.set_cons_zero, List.set_cons_succ, List.getElem_toArray, List.getElem_cons_zero, List.getElem_cons_succ]
      iterate 1 (refine pe_run _ ?_ rfl rfl ?_ ?_; rotate_left; (focus (intro w' hS; go_simp; exact rfl)); simp only [Act.put, List.setIfInBounds_toArray, List.set_cons_zero, List.set_cons_succ, List.getElem_toArray, List.getElem_cons_zero, List.getElem_cons_succ])
      have BA := Lib.hid ((Below.refl w3.heap.size w3).alloc (Nat.le_refl _) (.cells #[.string ⟨#[]⟩, .int .i64 0, .int .i64 0, .int .i64 0, .string ⟨#[]⟩, .slice none 0 0, .slice none 0 0] 140))
      have K5 := Lib.hid (K3.out.on BA.out)
      obtain ⟨y, hy⟩ : ∃ y, w3.heap.size = y := ⟨_, rfl⟩
      have YL := Lib.hid (show g + 1 + 1 < y by rw [← hy]; exact K3.out.c.lt)
      have XI := Lib.hid (show Blk (w3.alloc (.cells #[.string ⟨#[]⟩, .int .i64 0, .int .i64 0, .int .i64 0, .string ⟨#[]⟩, .slice none 0 0, .slice none 0 0] 140)) y 7 (rowL [.string ⟨#[]⟩, .int .i64 0, .int .i64 0, .int .i64 0, .string ⟨#[]⟩, .slice none 0 0, .slice none 0 0]) from Blk.new' hy.symm rfl)
      refine pe_value (w' := w3.alloc (.cells #[.string ⟨#[]⟩, .int .i64 0, .int .i64 0, .int .i64 0, .string ⟨#[]⟩, .slice none 0 0, .slice none 0 0] 140)) _ (.pointer (some ⟨y, 0, none⟩)) rfl rfl (by rw [← hy]; go_simp) K5.out ?_
      clear BA
      generalize w3.alloc (.cells #[.string ⟨#[]⟩, .int .i64 0, .int .i64 0, .int .i64 0, .string ⟨#[]⟩, .slice none 0 0, .slice none 0 0] 140) = w5 at *
      simp only [Act.put, List.setIfInBounds_toArray, List.set_cons_zero, List.set_cons_succ, List.getElem_toArray, List.getElem_cons_zero, List.getElem_cons_succ]
      clear hy
      have v0 := XI.out.get 0 (by omega)
      have v1 := XI.out.get 1 (by omega)
      have v2 := XI.out.get 2 (by omega)
      have v3 := XI.out.get 3 (by omega)
      have v4 := XI.out.get 4 (by omega)
      have v5 := XI.out.get 5 (by omega)
      have v6 := XI.out.get 6 (by omega)
      have z0 := XI.out.frz 0
      have z1 := XI.out.frz 1
      have z2 := XI.out.frz 2
      have z3 := XI.out.frz 3
      have z4 := XI.out.frz 4
      have z5 := XI.out.frz 5
      have z6 := XI.out.frz 6
      refine pe_last _ rfl ?_
      simp only [List.getElem_toArray, List.getElem_cons_zero, List.getElem_cons_succ]
      go_wp2_with fail
      go_meet
      obtain ⟨xi, ui⟩ := set7 XI.out (.string H) (.int .i64 V) (.int .i64 PR) (.int .i64 JV) (.string K) (.slice sa m1 sc) (.slice ra m2 rc)
      have hy9 := YL.out
      exact ⟨y, rfl, ⟨K5.out.below.trans (ui.below (by rw [HG.out]; omega)), K5.out.lo, K5.out.a.upd ui (by omega), K5.out.b.upd ui (by omega), K5.out.c.upd ui (by omega)⟩, xi, YL.out⟩
    · have BA := Lib.hid ((Below.refl w2.heap.size w2).alloc (Nat.le_refl _) (.cells #[.string ⟨#[]⟩, .int .i64 0, .int .i64 0, .int .i64 0, .string ⟨#[]⟩, .slice none 0 0, .slice none 0 0] 140))
      have K3 := Lib.hid (K2.out.on BA.out)
      obtain ⟨y, hy⟩ : ∃ y, w2.heap.size = y := ⟨_, rfl⟩
      have YL := Lib.hid (show g + 1 + 1 < y by rw [← hy]; exact K2.out.c.lt)
      have XI := Lib.hid (show Blk (w2.alloc (.cells #[.string ⟨#[]⟩, .int .i64 0, .int .i64 0, .int .i64 0, .string ⟨#[]⟩, .slice none 0 0, .slice none 0 0] 140)) y 7 (rowL [.string ⟨#[]⟩, .int .i64 0, .int .i64 0, .int .i64 0, .string ⟨#[]⟩, .slice none 0 0, .slice none 0 0]) from Blk.new' hy.symm rfl)
      refine pe_value (w' := w2.alloc (.cells #[.string ⟨#[]⟩, .int .i64 0, .int .i64 0, .int .i64 0, .string ⟨#[]⟩, .slice none 0 0, .slice none 0 0] 140)) _ (.pointer (some ⟨y, 0, none⟩)) rfl rfl (by rw [← hy]; go_simp) K3.out ?_
      clear BA
      generalize w2.alloc (.cells #[.string ⟨#[]⟩, .int .i64 0, .int .i64 0, .int .i64 0, .string ⟨#[]⟩, .slice none 0 0, .slice none 0 0] 140) = w3 at *
      simp only [Act.put, List.setIfInBounds_toArray, List.set_cons_zero, List.set_cons_succ, List.getElem_toArray, List.getElem_cons_zero, List.getElem_cons_succ]
      refine pe_call (R := fun v w' => v = .string H ∧ Below w3.heap.size w3 w') _ rfl rfl (by go_simp) ((HDG.out w3 ⟨HSX.out.1.later K3.out.below, HSX.out.2.later K3.out.below⟩).mono fun e w' h => ⟨.string H, by rw [h.1, HDH.out], rfl, h.2⟩) (fun v w' h => K3.out.on h.2) fun v w5 hr => ?_
      obtain ⟨rfl, hb⟩ := hr
      have K5 := Lib.hid (K3.out.on hb)
      replace XI := Lib.hid (XI.out.below hb XI.out.lt)
      clear hb
      simp only [Act.put, List.setIfInBounds_toArray, List.set_cons_zero, List.set_cons_succ, List.getElem_toArray, List.getElem_cons_zero, List.getElem_cons_succ]
      iterate 1 (refine pe_run _ ?_ rfl rfl ?_ ?_; rotate_left; (focus (intro w' hS; go_simp; exact rfl)); simp only [Act.put, List.setIfInBounds_toArray, List.set_cons_zero, List.set_cons_succ, List.getElem_toArray, List.getElem_cons_zero, List.getElem_cons_succ])
      clear hy
      have v0 := XI.out.get 0 (by omega)
      have v1 := XI.out.get 1 (by omega)
      have v2 := XI.out.get 2 (by omega)
      have v3 := XI.out.get 3 (by omega)
      have v4 := XI.out.get 4 (by omega)
      have v5 := XI.out.get 5 (by omega)
      have v6 := XI.out.get 6 (by omega)
      have z0 := XI.out.frz 0
      have z1 := XI.out.frz 1
      have z2 := XI.out.frz 2
      have z3 := XI.out.frz 3
      have z4 := XI.out.frz 4
      have z5 := XI.out.frz 5
      have z6 := XI.out.frz 6
      refine pe_last _ rfl ?_
      simp only [List.getElem_toArray, List.getElem_cons_zero, List.getElem_cons_succ]
      go_wp2_with fail
      go_meet
      obtain ⟨xi, ui⟩ := set7 XI.out (.string H) (.int .i64 V) (.int .i64 PR) (.int .i64 JV) (.string K) (.slice sa m1 sc) (.slice ra m2 rc)
      have hy9 := YL.out
      exact ⟨y, rfl, ⟨K5.out.below.trans (ui.below (by rw [HG.out]; omega)), K5.out.lo, K5.out.a.upd ui (by omega), K5.out.b.upd ui (by omega), K5.out.c.upd ui (by omega)⟩, xi, YL.out⟩
  case rest =>
    obtain ⟨y, rfl, hk5, hx5, hy5⟩ := hcut
    have K5 := Lib.hid hk5
    have X5 := Lib.hid hx5
    have Y5 := Lib.hid hy5
    clear hk5 hx5 hy5 K1
    have CI := Lib.hid (show ∀ w', Blk w' y 7 (rowL [.string H, .int .i64 V, .int .i64 PR, .int .i64 JV, .string K, .slice sa m1 sc, .slice ra m2 rc]) → (w'.cell? ⟨y, 0, none⟩ = some (.string H) ∧ w'.cell? ⟨y, 1, none⟩ = some (.int .i64 V) ∧ w'.cell? ⟨y, 2, none⟩ = some (.int .i64 PR) ∧ w'.cell? ⟨y, 3, none⟩ = some (.int .i64 JV) ∧ w'.cell? ⟨y, 4, none⟩ = some (.string K) ∧ w'.cell? ⟨y, 5, none⟩ = some (.slice sa m1 sc) ∧ w'.cell? ⟨y, 6, none⟩ = some (.slice ra m2 rc)) from fun w' hS =>
      ⟨hS.get 0 (by omega), hS.get 1 (by omega), hS.get 2 (by omega), hS.get 3 (by omega), hS.get 4 (by omega), hS.get 5 (by omega), hS.get 6 (by omega)⟩)
    obtain ⟨HB1, hHB1⟩ : ∃ HB, hasF F H = HB := ⟨_, rfl⟩
    have HHB1 := Lib.hid hHB1
    obtain ⟨HB2, hHB2⟩ : ∃ HB, hasF F K = HB := ⟨_, rfl⟩
    have HHB2 := Lib.hid hHB2
    obtain ⟨P1, hP1⟩ : ∃ P, atI F.orph H = P := ⟨_, rfl⟩
    have HP1 := Lib.hid hP1
    have HYE := Lib.hid (show Y = putF F (H, b) by rw [← HY.out, HH.out])
    clear hHB1 hHB2 hP1
    obtain ⟨c0, c1, c2, c3⟩ := C4.out _ K5.out
    obtain ⟨x0, x1, x2, x3, x4, x5, x6⟩ := CI.out _ X5.out
    go_wp2_with fail
    refine (fhas_is F H HB1 HHB1.out _ _ _ (HFO.out.later K5.out.below) HLF.out).mono ?_
    rintro e w6 ⟨rfl, hb6⟩
    have K6 := Lib.hid (K5.out.on hb6)
    have X6 := Lib.hid (X5.out.below hb6 X5.out.lt)
    clear hb6 c0 c1 c2 c3 x0 x1 x2 x3 x4 x5 x6
    obtain ⟨c0, c1, c2, c3⟩ := C4.out _ K6.out
    obtain ⟨x0, x1, x2, x3, x4, x5, x6⟩ := CI.out _ X6.out
    cases HB1 with
    | true =>
      have HYV := Lib.hid (show Y = (F, 6) by rw [HYE.out]; unfold putF; rw [if_pos (Or.inl HHB1.out)])
      have r0 : _ = some (FF3 0) := K6.out.c.get 0 (by omega)
      have r1 : _ = some (FF3 1) := K6.out.c.get 1 (by omega)
      have r2 : _ = some (FF3 2) := K6.out.c.get 2 (by omega)
      have r3 : _ = some (FF3 3) := K6.out.c.get 3 (by omega)
      have z0 := K6.out.c.frz 0
      have z1 := K6.out.c.frz 1
      have z2 := K6.out.c.frz 2
      have z3 := K6.out.c.frz 3
      go_wp2_with fail
      clear r0 r1 r2 r3 z0 z1 z2 z3
      obtain ⟨⟨q0, q1, q2, q3⟩, qu⟩ := set4 K6.out.c (.string F.root) (.int .i64 F.height) (.slice na N.length nc) (.slice oa O.length oc)
      have BF := K6.out.below.trans (qu.below (by rw [HG.out]; omega))
      refine bodyPost_ret (v := .tuple #[.agg #[.string F.root, .int .i64 F.height, (.slice na N.length nc), (.slice oa O.length oc)], .int .i64 6]) (by simp [results, Tryd.results31, go_sem, q0, q1, q2, q3]) rfl ⟨_, _, by rw [HYV.out], by rw [HYV.out]; exact (HD.out.on (Keeps.of BF)).more fun b h _ => Or.inl h, BF⟩
    | false =>
      go_wp2_with fail
      refine (fat_is O F.orph _ H P1 HO.out HP1.out w6 (HIO.out.later K6.out.below) HL.out).mono ?_
      rintro e w7 ⟨rfl, rfl⟩
      by_cases hp1 : 0 ≤ P1
      · have HYV := Lib.hid (show Y = (F, 6) by rw [HYE.out]; unfold putF; rw [if_pos (Or.inr (by show 0 ≤ atI F.orph H; rw [HP1.out]; exact hp1))])
        have r0 : _ = some (FF3 0) := K6.out.c.get 0 (by omega)
        have r1 : _ = some (FF3 1) := K6.out.c.get 1 (by omega)
        have r2 : _ = some (FF3 2) := K6.out.c.get 2 (by omega)
        have r3 : _ = some (FF3 3) := K6.out.c.get 3 (by omega)
        have z0 := K6.out.c.frz 0
        have z1 := K6.out.c.frz 1
        have z2 := K6.out.c.frz 2
        have z3 := K6.out.c.frz 3
        go_wp2_with fail
        clear r0 r1 r2 r3 z0 z1 z2 z3
        obtain ⟨⟨q0, q1, q2, q3⟩, qu⟩ := set4 K6.out.c (.string F.root) (.int .i64 F.height) (.slice na N.length nc) (.slice oa O.length oc)
        have BF := K6.out.below.trans (qu.below (by rw [HG.out]; omega))
        refine bodyPost_ret (v := .tuple #[.agg #[.string F.root, .int .i64 F.height, (.slice na N.length nc), (.slice oa O.length oc)], .int .i64 6]) (by simp [results, Tryd.results31, go_sem, q0, q1, q2, q3]) rfl ⟨_, _, by rw [HYV.out], by rw [HYV.out]; exact (HD.out.on (Keeps.of BF)).more fun b h _ => Or.inl h, BF⟩
      · have t1 : decide (0 ≤ P1) = false := decide_eq_false hp1
        have HNO := Lib.hid (show ¬ (hasF F (H, b).1 = true ∨ 0 ≤ atI F.orph (H, b).1) by
          show ¬ (hasF F H = true ∨ 0 ≤ atI F.orph H)
          rw [HHB1.out, HP1.out]; rintro (h | h); cases h; exact hp1 h)
        obtain ⟨d0, d1, d2, d3, d4, d5⟩ := C6.out _ K6.out
        clear hp1
        go_wp2_with fail
        refine (fhas_is F K HB2 HHB2.out _ _ _ (HFO.out.later K6.out.below) HLF.out).mono ?_
        rintro e w8 ⟨rfl, hb8⟩
        have K8 := Lib.hid (K6.out.on hb8)
        have X8 := Lib.hid (X6.out.below hb8 X6.out.lt)
        have HKK := Lib.hid (show hasF F (parI (H, b).2) = HB2 by show hasF F (parI b) = HB2; rw [HVS.out.2.2.2.1]; exact HHB2.out)
        clear hb8 t1 c0 c1 c2 c3 x0 x1 x2 x3 x4 x5 x6 d0 d1 d2 d3 d4 d5
        obtain ⟨c0, c1, c2, c3⟩ := C4.out _ K8.out
        obtain ⟨x0, x1, x2, x3, x4, x5, x6⟩ := CI.out _ X8.out
        cases HB2 with
        | false =>
          by_cases h8 : 8 ≤ O.length
          · have HYV := Lib.hid (show Y = (F, 7) by rw [HYE.out]; unfold putF; rw [if_neg HNO.out, if_pos HKK.out, if_pos (by rw [← HOL.out]; exact h8)])
            have t2 : (8 : Int) ≤ (O.length : Int) := by omega
            clear h8
            have r0 : _ = some (FF3 0) := K8.out.c.get 0 (by omega)
            have r1 : _ = some (FF3 1) := K8.out.c.get 1 (by omega)
            have r2 : _ = some (FF3 2) := K8.out.c.get 2 (by omega)
            have r3 : _ = some (FF3 3) := K8.out.c.get 3 (by omega)
            have z0 := K8.out.c.frz 0
            have z1 := K8.out.c.frz 1
            have z2 := K8.out.c.frz 2
            have z3 := K8.out.c.frz 3
            go_wp2_with fail
            clear r0 r1 r2 r3 z0 z1 z2 z3
            obtain ⟨⟨q0, q1, q2, q3⟩, qu⟩ := set4 K8.out.c (.string F.root) (.int .i64 F.height) (.slice na N.length nc) (.slice oa O.length oc)
            have BF := K8.out.below.trans (qu.below (by rw [HG.out]; omega))
            refine bodyPost_ret (v := .tuple #[.agg #[.string F.root, .int .i64 F.height, (.slice na N.length nc), (.slice oa O.length oc)], .int .i64 7]) (by simp [results, Tryd.results31, go_sem, q0, q1, q2, q3]) rfl ⟨_, _, by rw [HYV.out], by rw [HYV.out]; exact (HD.out.on (Keeps.of BF)).more fun b h _ => Or.inl h, BF⟩
          · have HYV := Lib.hid (show Y = ({ F with orph := F.orph ++ [(H, b)] }, 0) by rw [HYE.out]; unfold putF; rw [if_neg HNO.out, if_pos HKK.out, if_neg (by rw [← HOL.out]; exact h8)])
            have t2 : decide ((8 : Int) ≤ (O.length : Int)) = false := decide_eq_false (by omega)
            clear h8
            go_wp2_with fail
            have HENC := Lib.hid (show encV ((H, b), Value.slice sa m1 sc, Value.slice ra m2 rc) = [.string H, .int .i64 V, .int .i64 PR, .int .i64 JV, .string K, .slice sa m1 sc, .slice ra m2 rc] by
              obtain ⟨e1, e2, e3, e4, e5, e6⟩ := HVS.out
              rw [← e1, ← e2, ← e3, ← e4]; rfl)
            have HINN := Lib.hid (show InnV w ((H, b), Value.slice sa m1 sc, Value.slice ra m2 rc) from ⟨HSX.out.1, HSX.out.2⟩)
            refine twoE_abs 8 [1, 2, 4] 0 3 5 37 40 42 [(false, 6), (true, 7), (false, 8)] _ _ _ 140 7 O.length (cellsV O) [.string H, .int .i64 V, .int .i64 PR, .int .i64 JV, .string K, .slice sa m1 sc, .slice ra m2 rc] (by kernel_rfl) (by kernel_rfl) (fun _ _ d _ _ h => by cases d <;> exact h) rfl rfl rfl ⟨rfl, rfl, rfl⟩ ⟨rfl, rfl, rfl⟩ ⟨by decide, by decide, by decide⟩ fun w4 hs4 => ?_
            have K4 := Lib.hid (K8.out.on (hs4.below _))
            have X4 := Lib.hid (X8.out.below (hs4.below _) X8.out.lt)
            have Y4 := Lib.hid (show y < w4.heap.size from X4.out.lt)
            clear hs4 c0 c1 c2 c3 t2 x0 x1 x2 x3 x4 x5 x6
            obtain ⟨ti, i1, i2, i3, i4⟩ := info_parts info_item
            iterate 3 (refine pre_run _ ?_ rfl rfl ?_ ?_; rotate_left; (focus (intro w' hS; obtain ⟨c0, c1, c2, c3⟩ := C4.out w' (K4.out.on hS); obtain ⟨d0, d1, d2, d3, d4, d5, d6⟩ := CI.out w' (X4.out.below hS Y4.out); go_simp; exact rfl)); simp only [Act.put, List.setIfInBounds_toArray, List.set_cons_zero, List.set_cons_succ, List.getElem_toArray, List.getElem_cons_zero, List.getElem_cons_succ])
            refine pre_end ⟨?_, ?_, ?_, ?_⟩
            · rintro a' (rfl | ⟨x, rfl⟩) w' <;> go_simp
            · rintro a' (rfl | ⟨x, rfl⟩ | ⟨x, z, rfl⟩) w' hb <;> go_simp
            · rintro b' a' ha w' hb hown
              have BW := K4.out.below.trans (hb.mono K4.out.below.size)
              obtain ⟨v', w'', hr, ho, hg, hob⟩ := run_append_arg0 (P := Tryd.prog) w4.heap.size 52 52 140 ti _ 7 104 und_items i1 i2 i3 i4 rfl (by decide) b' hown oa O.length oc (cellsV O) (cellsV_len O) (iv_none HIO.out) (iv_flat HIO.out BW) (cellsV_one fun x hx => iv_inn HIO.out x hx) (by have := HL.out; unfold maxLen; omega) (by have := HL.out; omega) hb.size
              refine ⟨v', w'', ?_, ho, hg, hob⟩
              rcases ha with rfl | ⟨x, rfl⟩ | ⟨x, rfl⟩
              all_goals exact JJ.run_op_append _ _ _ rfl _ _ rfl rfl hr
            · intro b' v' b7 w' hT
              have HTW := Lib.hid hT
              clear hT
              simp only [Act.put, List.setIfInBounds_toArray, List.set_cons_zero, List.set_cons_succ]
              obtain ⟨u8, w8', hr8, ho8, hg8, _⟩ := run_append_own (P := Tryd.prog) w' w4.heap.size 52 52 140 ti _ 7 104 und_items i1 i2 i3 i4 rfl (by decide) v' O.length (cellsV O) HTW.out.row ⟨b7, 0, none⟩ 1 1 [.string H, .int .i64 V, .int .i64 PR, .int .i64 JV, .string K, .slice sa m1 sc, .slice ra m2 rc] rfl (fun j u hj => by rw [Addr.add_lit, Nat.zero_add]; exact HTW.out.cell j u hj) (by rw [← HENC.out]; exact encV_one HINN.out) (by have := HL.out; unfold maxLen; omega) (by have := HL.out; omega) HTW.out.below.size
              obtain ⟨ua, uc, rfl⟩ : ∃ ua uc, u8 = .slice ua (O.length + 1) uc := by
                rcases ho8.2 with ⟨_, h0⟩ | ⟨q, cp, cur, rfl, _⟩
                · omega
                · exact ⟨_, _, rfl⟩
              have O8 := Lib.hid (show w8'.ownsRow w4.heap.size 140 7 (.slice ua (O.length + 1) uc) (O ++ [((H, b), Value.slice sa m1 sc, Value.slice ra m2 rc)]).length (cellsV (O ++ [((H, b), Value.slice sa m1 sc, Value.slice ra m2 rc)])) by
                rw [cellsV_snoc, HENC.out, List.length_append]; exact ho8)
              have B8 := Lib.hid (HTW.out.below.grown hg8 HTW.out.below.size (fun k hk => (HTW.out.row.lt k hk).1))
              have K8' := Lib.hid (K4.out.on B8.out)
              refine pe_value (w' := w8') _ _ rfl rfl (JJ.run_op_append _ _ _ rfl _ _ rfl rfl hr8) B8.out ?_
              clear hr8 ho8 hg8
              simp only [Act.put, List.setIfInBounds_toArray, List.set_cons_zero, List.set_cons_succ, List.getElem_toArray, List.getElem_cons_zero, List.getElem_cons_succ]
              iterate 1 (refine pe_run _ ?_ rfl rfl ?_ ?_; rotate_left; (focus (intro w' hS; go_simp; exact rfl)); simp only [Act.put, List.setIfInBounds_toArray, List.set_cons_zero, List.set_cons_succ, List.getElem_toArray, List.getElem_cons_zero, List.getElem_cons_succ])
              refine pe_last _ rfl ?_
              simp only [List.getElem_toArray, List.getElem_cons_zero, List.getElem_cons_succ]
              obtain ⟨c0, c1, c2, c3⟩ := C4.out _ K8'.out
              have f2 := K8'.out.a.frz 3
              have K9 := Lib.hid (show PqS w g (put FF1 3 (.slice ua (O.length + 1) uc)) FF2 FF3 (w8'.setCell ⟨g, 3, none⟩ (.slice ua (O.length + 1) uc)) from
                ⟨K8'.out.below.trans ((Upd.set w8' g 3 _).below (by rw [HG.out]; exact Nat.le_refl _)), K8'.out.lo, K8'.out.a.set 3 _, K8'.out.b.set_other _ _ (by show g + 1 ≠ g; omega), K8'.out.c.set_other _ _ (by show g + 1 + 1 ≠ g; omega)⟩)
              have x0 : (w8'.setCell ⟨g, 3, none⟩ (.slice ua (O.length + 1) uc)).cell? ⟨g, 0, none⟩ = some (.string F.root) := by have h := K9.out.a.get 0 (by omega); rw [← E1.out] at h; exact h
              have x1 : (w8'.setCell ⟨g, 3, none⟩ (.slice ua (O.length + 1) uc)).cell? ⟨g, 1, none⟩ = some (.int .i64 F.height) := by have h := K9.out.a.get 1 (by omega); rw [← E1.out] at h; exact h
              have x2 : (w8'.setCell ⟨g, 3, none⟩ (.slice ua (O.length + 1) uc)).cell? ⟨g, 2, none⟩ = some (.slice na N.length nc) := by have h := K9.out.a.get 2 (by omega); rw [← E1.out] at h; exact h
              have x3 : (w8'.setCell ⟨g, 3, none⟩ (.slice ua (O.length + 1) uc)).cell? ⟨g, 3, none⟩ = some (.slice ua (O.length + 1) uc) := by have h := K9.out.a.get 3 (by omega); rw [← E1.out] at h; exact h
              have r0 : _ = some (FF3 0) := K9.out.c.get 0 (by omega)
              have r1 : _ = some (FF3 1) := K9.out.c.get 1 (by omega)
              have r2 : _ = some (FF3 2) := K9.out.c.get 2 (by omega)
              have r3 : _ = some (FF3 3) := K9.out.c.get 3 (by omega)
              have z0 := K9.out.c.frz 0
              have z1 := K9.out.c.frz 1
              have z2 := K9.out.c.frz 2
              have z3 := K9.out.c.frz 3
              go_wp2_with fail
              clear r0 r1 r2 r3 z0 z1 z2 z3
              obtain ⟨⟨q0, q1, q2, q3⟩, qu⟩ := set4 K9.out.c (.string F.root) (.int .i64 F.height) (.slice na N.length nc) (.slice ua (O.length + 1) uc)
              have BF := K9.out.below.trans (qu.below (by rw [HG.out]; omega))
              refine bodyPost_ret (v := .tuple #[.agg #[.string F.root, .int .i64 F.height, (.slice na N.length nc), (.slice ua (O.length + 1) uc)], .int .i64 0]) (by simp [results, Tryd.results31, go_sem, q0, q1, q2, q3]) rfl ⟨_, _, by rw [HYV.out], ?_, BF⟩
              have G4 : g + 1 + 1 < w4.heap.size := K4.out.c.lt
              rw [HYV.out]
              refine ⟨N, O ++ [((H, b), Value.slice sa m1 sc, Value.slice ra m2 rc)], HN.out, by rw [List.map_append, HO.out]; rfl, ?_⟩
              intro w'' hk
              have KK := (Keeps.of BF).trans (hk.sub fun b h _ => Or.inl h)
              obtain ⟨e3, e4⟩ := HDD.out w'' KK
              refine ⟨e3, iv_of_own (row_keep O8.out fun c hc => ?_) fun x hx => ?_⟩
              · have hc4 := (O8.out.lt c hc).1
                rw [hk.block c (Or.inr (by rw [HG.out]; omega)) (by rw [qu.size, (Upd.set w8' g 3 _).size]; exact (O8.out.lt c hc).2), qu.block c (by omega), Below.heap_setCell _ _ _ c (by show c ≠ g; omega)]
              · rcases List.mem_append.1 hx with hx | hx
                · exact iv_inn e4 x hx
                · rw [List.mem_singleton] at hx; subst hx; exact HDX.out w'' KK
        | true =>
          go_wp2_with fail
          have FD8 := Lib.hid (show FoD (fun c => A c ∧ c < w.heap.size) w8 F (.slice na N.length nc) (.slice oa O.length oc) from HD.out.cut.on (Keeps.of K8.out.below))
          have DX8 := Lib.hid (show Dep (fun c => A c ∧ c < w.heap.size) w8 (fun w' => InnV w' ((H, b), .slice sa m1 sc, .slice ra m2 rc)) from fun w'' hk => by
            have h := HDX.out w'' ⟨(K8.out.below.mono (Nat.zero_le _)).trans hk.b0, fun b hb hl => (hk.block b ⟨hb, hl⟩ (Nat.lt_of_lt_of_le hl K8.out.below.size)).trans (K8.out.below.block b hl)⟩
            exact ⟨h.1, h.2⟩)
          have CP := fput1_dep _ F H b _ _ _ _ w8 FD8.out DX8.out HLF.out
          rw [HVS.out.1, HVS.out.2.1, HVS.out.2.2.1, HVS.out.2.2.2.1] at CP
          refine CP.mono ?_
          rintro e w9 ⟨nv2, rfl, hFD, hb9⟩
          have HFD := Lib.hid hFD
          obtain ⟨na2, nn2, nc2, rfl⟩ : ∃ a n c, nv2 = .slice a n c := by
            obtain ⟨N2, O2, _, _, h3, _⟩ := hFD.now
            obtain ⟨a, c, rfl⟩ := iv_shape h3
            exact ⟨a, _, c, rfl⟩
          have K9 := Lib.hid (K8.out.on hb9)
          have HK9 := Lib.hid hb9.size
          have B11 := Lib.hid ((Below.refl w9.heap.size w9).alloc (Nat.le_refl _) (.cells #[.string F.root, .int .i64 F.height, .slice na2 nn2 nc2, .slice oa O.length oc] 54))
          have K11 := Lib.hid (K9.out.on B11.out)
          obtain ⟨ec, hec⟩ : ∃ ec, (standF F (H, b)).2 = ec := ⟨_, rfl⟩
          have HEC := Lib.hid hec
          rw [hec]
          clear hFD hb9 hec CP c0 c1 c2 c3 x0 x1 x2 x3 x4 x5 x6
          obtain ⟨c0, c1, c2, c3⟩ := C4.out _ K11.out
          by_cases h0 : ec = 0
          rotate_left
          · have t1 : (ec == 0) = false := by simpa using h0
            have HYV := Lib.hid (show Y = (F, ec) by rw [HYE.out]; unfold putF; rw [if_neg HNO.out, if_neg (by rw [HKK.out]; simp), if_pos (by rw [HEC.out]; exact h0), HEC.out])
            clear h0
            have r0 : _ = some (FF3 0) := K11.out.c.get 0 (by omega)
            have r1 : _ = some (FF3 1) := K11.out.c.get 1 (by omega)
            have r2 : _ = some (FF3 2) := K11.out.c.get 2 (by omega)
            have r3 : _ = some (FF3 3) := K11.out.c.get 3 (by omega)
            have z0 := K11.out.c.frz 0
            have z1 := K11.out.c.frz 1
            have z2 := K11.out.c.frz 2
            have z3 := K11.out.c.frz 3
            go_wp2_with fail
            clear r0 r1 r2 r3 z0 z1 z2 z3
            obtain ⟨⟨q0, q1, q2, q3⟩, qu⟩ := set4 K11.out.c (.string F.root) (.int .i64 F.height) (.slice na N.length nc) (.slice oa O.length oc)
            have BF := K11.out.below.trans (qu.below (by rw [HG.out]; omega))
            refine bodyPost_ret (v := .tuple #[.agg #[.string F.root, .int .i64 F.height, (.slice na N.length nc), (.slice oa O.length oc)], .int .i64 ec]) (by simp [results, Tryd.results31, go_sem, q0, q1, q2, q3]) rfl ⟨_, _, by rw [HYV.out], by rw [HYV.out]; exact (HD.out.on (Keeps.of BF)).more fun b h _ => Or.inl h, BF⟩
          · subst h0
            have HYV := Lib.hid (show Y = (adoptF 10 (standF F (H, b)).1, 0) by rw [HYE.out]; unfold putF; rw [if_neg HNO.out, if_neg (by rw [HKK.out]; simp), if_neg (by rw [HEC.out]; simp)])
            have A11 := Lib.hid (show FoD (fun c => (A c ∧ c < w.heap.size) ∨ w8.heap.size ≤ c) (w9.alloc (.cells #[.string F.root, .int .i64 F.height, .slice na2 nn2 nc2, .slice oa O.length oc] 54)) (standF F (H, b)).1 (.slice na2 nn2 nc2) (.slice oa O.length oc) from HFD.out.on (Keeps.of B11.out))
            have G11 := Lib.hid (show w8.heap.size ≤ (w9.alloc (.cells #[.string F.root, .int .i64 F.height, .slice na2 nn2 nc2, .slice oa O.length oc] 54)).heap.size from Nat.le_trans HK9.out B11.out.size)
            have G8 := Lib.hid (show g + 1 + 1 < w8.heap.size from K8.out.c.lt)
            have IHX := fadopt_any 10 (by omega) _ _ _ _ _ A11.out (stand_len _ _ HLF.out) (by rw [stand_orph]; exact HOF.out)
            rw [stand_root, stand_height] at IHX
            go_wp2_with fail
            refine IHX.mono ?_
            rintro e w12 ⟨nv3, ov3, rfl, hFD3, hb12⟩
            have HFD3 := Lib.hid hFD3
            obtain ⟨na3, nn3, nc3, rfl⟩ : ∃ a n c, nv3 = .slice a n c := by
              obtain ⟨N2, O2, _, _, h3, _⟩ := hFD3.now
              obtain ⟨a, c, rfl⟩ := iv_shape h3
              exact ⟨a, _, c, rfl⟩
            obtain ⟨oa3, on3, oc3, rfl⟩ : ∃ a n c, ov3 = .slice a n c := by
              obtain ⟨N2, O2, _, _, _, h3⟩ := hFD3.now
              obtain ⟨a, c, rfl⟩ := iv_shape h3
              exact ⟨a, _, c, rfl⟩
            have K12 := Lib.hid (K11.out.on hb12)
            clear IHX hFD3 hb12 c0 c1 c2 c3
            have r0 : _ = some (FF3 0) := K12.out.c.get 0 (by omega)
            have r1 : _ = some (FF3 1) := K12.out.c.get 1 (by omega)
            have r2 : _ = some (FF3 2) := K12.out.c.get 2 (by omega)
            have r3 : _ = some (FF3 3) := K12.out.c.get 3 (by omega)
            have z0 := K12.out.c.frz 0
            have z1 := K12.out.c.frz 1
            have z2 := K12.out.c.frz 2
            have z3 := K12.out.c.frz 3
            go_wp2_with fail
            clear r0 r1 r2 r3 z0 z1 z2 z3
            obtain ⟨⟨q0, q1, q2, q3⟩, qu⟩ := set4 K12.out.c (.string F.root) (.int .i64 F.height) (.slice na3 nn3 nc3) (.slice oa3 on3 oc3)
            have BF := K12.out.below.trans (qu.below (by rw [HG.out]; omega))
            refine bodyPost_ret (v := .tuple #[.agg #[.string F.root, .int .i64 F.height, (.slice na3 nn3 nc3), (.slice oa3 on3 oc3)], .int .i64 0]) (by simp [results, Tryd.results31, go_sem, q0, q1, q2, q3]) rfl ⟨_, _, by rw [HYV.out], ?_, BF⟩
            rw [HYV.out]
            have hg9 := HG.out
            have hg11 := G11.out
            have hg8 := G8.out
            refine (HFD3.out.on (Keeps.upd qu fun c hc => ?_)).more fun c hc _ => ?_
            · rcases hc with (hc | hc) | hc <;> omega
            · rcases hc with (hc | hc) | hc
              · exact Or.inl hc.1
              · exact Or.inr (by omega)
              · exact Or.inr (by omega)
end Go.Proofs.YtegkhhegapnkpaaDoor
