/-
  The walk of the reference's New.
-/
import Derived.Test.YtegkhhegapnkpaaDoorKFMiss
import Derived.Test.YtegkhhegapnkpaaDoorKPlanG
import Derived.Test.YtegkhhegapnkpaaDoorKJRow
import Derived.Test.YtegkhhegapnkpaaDoorKEText
section
open Go Go.RowKit
namespace FF
open WW BB
/-- the blocks of A stay as they are -/
structure Keeps (A : Nat → Prop) (w w' : World) : Prop where
  b0 : Below 0 w w'
  block : ∀ b, A b → b < w.heap.size → w'.heap[b]? = w.heap[b]?
theorem Keeps.refl (A : Nat → Prop) (w : World) : Keeps A w w := ⟨Below.refl 0 w, fun _ _ _ => rfl⟩
theorem Keeps.trans {A : Nat → Prop} {w1 w2 w3 : World} (h : Keeps A w1 w2) (k : Keeps A w2 w3) : Keeps A w1 w3 := ⟨h.b0.trans k.b0, fun b hb hl => (k.block b hb (Nat.lt_of_lt_of_le hl h.b0.size)).trans (h.block b hb hl)⟩
theorem Keeps.of {A : Nat → Prop} {w w' : World} (h : Below w.heap.size w w') : Keeps A w w' := ⟨h.mono (Nat.zero_le _), fun b _ hl => h.block b hl⟩
theorem Keeps.upd {A : Nat → Prop} {c : Nat} {w w' : World} (h : Upd c w w') (hA : ∀ b, A b → b ≠ c) : Keeps A w w' := ⟨h.below (Nat.zero_le _), fun b hb _ => h.block b (hA b hb)⟩
theorem Keeps.sub {A A' : Nat → Prop} {w w' : World} (h : Keeps A w w') (hA : ∀ b, A' b → b < w.heap.size → A b) : Keeps A' w w' := ⟨h.b0, fun b hb hl => h.block b (hA b hb hl) hl⟩
theorem Keeps.below {w w' : World} (h : Keeps (fun b => b < w.heap.size) w w') : Below w.heap.size w w' := ⟨h.b0.os, h.b0.tape, h.b0.output, h.b0.size, fun k hk => h.block k hk hk⟩
/-- what is said of a world rests upon the blocks of A -/
def Dep (A : Nat → Prop) (w : World) (P : World → Prop) : Prop := ∀ w', Keeps A w w' → P w'
theorem Dep.now {A : Nat → Prop} {w : World} {P : World → Prop} (h : Dep A w P) : P w := h w (Keeps.refl A w)
theorem Dep.on {A : Nat → Prop} {w w' : World} {P : World → Prop} (h : Dep A w P) (hk : Keeps A w w') : Dep A w' P := fun w2 h2 => h w2 (hk.trans h2)
theorem Dep.more {A A' : Nat → Prop} {w : World} {P : World → Prop} (h : Dep A w P) (hA : ∀ b, A b → b < w.heap.size → A' b) : Dep A' w P := fun w2 h2 => h w2 (h2.sub hA)
/-- the forest F, resting upon the blocks of A -/
def FoD (A : Nat → Prop) (w : World) (F : Fo) (nv ov : Value) : Prop := ∃ N O : List Iv, N.map Prod.fst = F.nodes ∧ O.map Prod.fst = F.orph ∧ Dep A w (fun w' => IvAt w' nv N ∧ IvAt w' ov O)
theorem FoD.now {A : Nat → Prop} {w : World} {F : Fo} {nv ov : Value} (h : FoD A w F nv ov) : FoAt w F nv ov := by
  obtain ⟨N, O, h1, h2, h3⟩ := h
  exact ⟨N, O, h1, h2, h3.now.1, h3.now.2⟩
theorem FoD.on {A : Nat → Prop} {w w' : World} {F : Fo} {nv ov : Value} (h : FoD A w F nv ov) (hk : Keeps A w w') : FoD A w' F nv ov := by
  obtain ⟨N, O, h1, h2, h3⟩ := h
  exact ⟨N, O, h1, h2, h3.on hk⟩
theorem FoD.more {A A' : Nat → Prop} {w : World} {F : Fo} {nv ov : Value} (h : FoD A w F nv ov) (hA : ∀ b, A b → b < w.heap.size → A' b) : FoD A' w F nv ov := by
  obtain ⟨N, O, h1, h2, h3⟩ := h
  exact ⟨N, O, h1, h2, h3.more hA⟩
theorem FoD.cut {A : Nat → Prop} {w : World} {F : Fo} {nv ov : Value} (h : FoD A w F nv ov) : FoD (fun b => A b ∧ b < w.heap.size) w F nv ov := by
  obtain ⟨N, O, h1, h2, h3⟩ := h
  exact ⟨N, O, h1, h2, fun w2 h4 => h3 w2 (h4.sub fun c hc hl => ⟨hc, hl⟩)⟩
/-- a list as a row -/
def rowL (l : List Value) (i : Nat) : Value := l.getD i undef
/-- the call's three boxes: the forest, the item, the result -/
structure PuS (w : World) (g : Nat) (f1 f2 f3 : Nat → Value) (w' : World) : Prop where
  below : Below w.heap.size w w'
  lo : w.heap.size = g
  a : Blk w' g 4 f1
  b : Blk w' (g + 1) 7 f2
  c : Blk w' (g + 1 + 1) 4 f3
theorem PuS.on {w : World} {g : Nat} {f1 f2 f3 : Nat → Value} {w1 w2 : World} (h : PuS w g f1 f2 f3 w1) (hb : Below w1.heap.size w1 w2) : PuS w g f1 f2 f3 w2 :=
  ⟨h.below.trans (hb.mono h.below.size), h.lo, h.a.below hb h.a.lt, h.b.below hb h.b.lt, h.c.below hb h.c.lt⟩
theorem PuS.mk3 (w : World) (cs ds es : List Value) (t u s : TypeId) (h1 : cs.toArray = row 4 (rowL cs)) (h2 : ds.toArray = row 7 (rowL ds)) (h3 : es.toArray = row 4 (rowL es)) : PuS w w.heap.size (rowL cs) (rowL ds) (rowL es) (((w.alloc (.cells cs.toArray t)).alloc (.cells ds.toArray u)).alloc (.cells es.toArray s)) := by
  have b1 := (Below.refl w.heap.size w).alloc (Nat.le_refl _) (.cells cs.toArray t)
  have b2 := b1.alloc b1.size (.cells ds.toArray u)
  have b3 := b2.alloc b2.size (.cells es.toArray s)
  refine ⟨b3, rfl, ((Blk.new' rfl h1).alloc _).alloc _, (Blk.new' (by simp) h2).alloc _, Blk.new' (by simp) h3⟩
theorem run_append_none_any {P : Program} {w : World} (base : Nat) (t ty e : TypeId) (i : TypeInfo) (size : Nat) (ht : P.underlying t = some (.slice e)) (hi : P.info? e = some i)
    (v : Value) (n : Nat) (xs : List Value) (hown : w.ownsRow base e size v n xs) (c : Nat) :
    (Builtin.append_ #[t, t] ty #[v, .slice none 0 c]).run P w = .ok v w := by
  rcases hown.2 with ⟨rfl, rfl⟩ | ⟨g, cap, cur, rfl, _, _, hnc, _⟩
  · simp [Builtin.append_, run_underlying ht, Go.sizeOf, typeInfo, hi, Builtin.lenOf, Builtin.firstCells]
  · simp [Builtin.append_, run_underlying ht, Go.sizeOf, typeInfo, hi, Builtin.lenOf, Builtin.firstCells, hnc, storeCells]
/-- what was in a slice is appended to an empty row of the call's own -/
theorem run_append_arg0 {P : Program} {w : World} (base : Nat) (t ty e : TypeId) (i : TypeInfo) (z : Value) (size bytes : Nat) (ht : P.underlying t = some (.slice e)) (hi : P.info? e = some i) (hz : i.zero = some z)
    (hsize : i.size = size) (hby : i.bytes = bytes) (hzs : z.cells.size = size) (hsz : 0 < size) (b : Nat) (hown : w.ownsRow base e size (.slice (some ⟨b, 0, none⟩) 0 0) 0 []) (a0 : Option Addr) (j c : Nat) (news : List Value) (hl : news.length = j * size)
    (hn : a0 = none → j = 0) (hnews : ∀ a, a0 = some a → ∀ k u, news[k]? = some u → w.cell? (a.add k) = some u) (h1 : ∀ y ∈ news, y.oneCell' = true)
    (h63 : j ≤ maxLen) (hbytes : j * bytes ≤ 140737488355328) (hbase : base ≤ w.heap.size) :
    ∃ v' w', (Builtin.append_ #[t, t] ty #[.slice (some ⟨b, 0, none⟩) 0 0, .slice a0 j c]).run P w = .ok v' w' ∧ w'.ownsRow base e size v' j news ∧ w.grownBy w' (some b) ∧ ∀ c, v'.ownBlock = some c → c = b ∨ w.heap.size ≤ c := by
  rcases a0 with _ | a
  · obtain rfl := hn rfl
    have hn : news = [] := List.eq_nil_of_length_eq_zero (by simpa using hl)
    subst hn
    exact ⟨_, w, run_append_none_any (P := P) (w := w) base t ty e i size ht hi _ 0 [] hown c, hown, ⟨rfl, rfl, rfl, Nat.le_refl _, fun _ _ _ => rfl⟩, fun c' hc => by
      have hc : some b = some c' := hc
      injection hc with hc
      exact Or.inl hc.symm⟩
  · obtain ⟨v', w', hr, ho, hg, _⟩ := run_append_own (P := P) w base t ty e i z size bytes ht hi hz hsize hby hzs hsz _ 0 [] hown a j c news hl (hnews a rfl) h1 (by simpa using h63) (by simpa using hbytes) hbase
    refine ⟨v', w', hr, by simpa using ho, hg, fun c' hc => ?_⟩
    by_cases hj : j = 0
    · subst hj
      have hn : news = [] := List.eq_nil_of_length_eq_zero (by simpa using hl)
      subst hn
      obtain ⟨cur', hh⟩ : ∃ cur', w.heap[b]? = some (.cells cur' e (0, 0)) := by
        rcases hown.2 with ⟨h, _⟩ | ⟨g', cap', cur', h, _, hh, _⟩
        · cases h
        · injection h with h _ _; injection h with h; injection h with h; subst h; exact ⟨cur', hh⟩
      have h2 := run_append_room (P := P) w t ty e i ht hi b 0 0 cur' hh a 0 c [] (by simp) (by simp) (by simp) (by omega) (by simp)
      rw [hr] at h2
      injection h2 with h2 _
      subst h2
      have hc : some b = some c' := hc
      injection hc with hc
      exact Or.inl hc.symm
    · have h2 := run_append_grow (P := P) w t ty e i z ht hi hz ⟨b, 0, none⟩ 0 0 [] (by simp) (by simp) a j c news (by rw [hsize]; exact hl) (hnews a rfl) (by omega) (by unfold maxLen at h63; omega) (growslice_fits (by omega) (by rw [hby]; simpa using hbytes))
      rw [hr] at h2
      injection h2 with h2 _
      subst h2
      have hc : some w.heap.size = some c' := hc
      injection hc with hc
      exact Or.inr (by omega)
/-- four cells are written -/
theorem set4 {w : World} {a : Nat} {f : Nat → Value} (h : Blk w a 4 f) (u0 u1 u2 u3 : Value) :
    ((((((w.setCell ⟨a, 0, none⟩ u0).setCell ⟨a, 1, none⟩ u1).setCell ⟨a, 2, none⟩ u2).setCell ⟨a, 3, none⟩ u3).cell? ⟨a, 0, none⟩ = some u0 ∧ ((((w.setCell ⟨a, 0, none⟩ u0).setCell ⟨a, 1, none⟩ u1).setCell ⟨a, 2, none⟩ u2).setCell ⟨a, 3, none⟩ u3).cell? ⟨a, 1, none⟩ = some u1 ∧
      ((((w.setCell ⟨a, 0, none⟩ u0).setCell ⟨a, 1, none⟩ u1).setCell ⟨a, 2, none⟩ u2).setCell ⟨a, 3, none⟩ u3).cell? ⟨a, 2, none⟩ = some u2 ∧ ((((w.setCell ⟨a, 0, none⟩ u0).setCell ⟨a, 1, none⟩ u1).setCell ⟨a, 2, none⟩ u2).setCell ⟨a, 3, none⟩ u3).cell? ⟨a, 3, none⟩ = some u3)) ∧
    Upd a w ((((w.setCell ⟨a, 0, none⟩ u0).setCell ⟨a, 1, none⟩ u1).setCell ⟨a, 2, none⟩ u2).setCell ⟨a, 3, none⟩ u3) := by
  have k := ((((h.set 0 u0).set 1 u1).set 2 u2).set 3 u3)
  exact ⟨⟨k.get 0 (by omega), k.get 1 (by omega), k.get 2 (by omega), k.get 3 (by omega)⟩, ((((Upd.refl a w).trans (Upd.set _ _ _ _)).trans (Upd.set _ _ _ _)).trans (Upd.set _ _ _ _)).trans (Upd.set _ _ _ _)⟩
/-- the cells of a slice of items, one behind the other -/
theorem iv_flat {w w' : World} {a0 : Option Addr} {n c : Nat} {L : List Iv} (h : IvAt w (.slice a0 n c) L) (hb : Below w.heap.size w w') : ∀ a, a0 = some a → ∀ k u, (cellsV L)[k]? = some u → w'.cell? (a.add k) = some u := by
  intro a ha k u hu
  obtain ⟨a1, c1, he, h | ⟨b, off, h1, hl, hc⟩⟩ := h
  · subst h; simp [cellsV] at hu
  · injection he with e1 _ _
    rw [ha, h1] at e1
    injection e1 with e1
    subst e1
    have hk : k < L.length * 7 := by rw [← cellsV_len]; exact (List.getElem?_eq_some_iff.1 hu).1
    have hi : k / 7 < L.length := by omega
    have hj : k % 7 < (encV (L.getD (k / 7) v0)).length := by show k % 7 < 7; omega
    have h2 := cellsV_at L (k / 7) (k % 7) _ hi (List.getElem?_eq_getElem hj)
    rw [show k / 7 * 7 + k % 7 = k by omega, hu] at h2
    injection h2 with h2
    have h3 := (hc (k / 7) hi).1 (k % 7) _ (List.getElem?_eq_getElem hj)
    rw [← h2, show off + k / 7 * 7 + k % 7 = off + k by omega] at h3
    rw [Addr.add_lit]
    exact (hb.cell (p := ⟨b, off + k, none⟩) hl).trans h3
theorem iv_none {w : World} {a0 : Option Addr} {n c : Nat} {L : List Iv} (h : IvAt w (.slice a0 n c) L) (h0 : a0 = none) : n = 0 := by
  obtain ⟨a1, c1, he, h | ⟨b, off, h1, _⟩⟩ := h
  · subst h; injection he
  · injection he with e1 _ _
    rw [h0, h1] at e1
    cases e1
end FF
namespace Go.Proofs.YtegkhhegapnkpaaDoor
open FF JJ CC WW BB
theorem info_item : (Tryd.prog.info? 140).map (fun i => (i.zero, i.size, i.bytes)) = some (some (.agg #[.string ⟨#[]⟩, .int .i64 0, .int .i64 0, .int .i64 0, .string ⟨#[]⟩, .slice none 0 0, .slice none 0 0]), 7, 104) := by kernel_rfl
theorem und_items : Tryd.prog.underlying 52 = some (.slice 140) := by kernel_rfl
set_option maxRecDepth 100000 in
set_option maxHeartbeats 8000000 in
theorem fput1_dep (A : Nat → Prop) (F : Fo) (h : ByteArray) (b : BlockD) (sv rv nv ov : Value) (w : World) (hdv : FoD A w F nv ov) (hdx : Dep A w (fun w' => InnV w' ((h, b), sv, rv))) (hl : F.nodes.length ≤ 1000) :
    Calls Tryd.prog 92 #[.agg #[.string F.root, .int .i64 F.height, nv, ov], .agg #[.string h, .int .i64 (viewI b), .int .i64 (propI b), .int .i64 (jvI b), .string (parI b), sv, rv]] w fun e w' =>
      ∃ nv', e = .returned (.tuple #[.agg #[.string F.root, .int .i64 F.height, nv', ov], .int .i64 (standF F (h, b)).2]) ∧ FoD (fun b => A b ∨ w.heap.size ≤ b) w' (standF F (h, b)).1 nv' ov ∧ Below w.heap.size w w' := by
  have HDV := Lib.hid hdv
  have HDX := Lib.hid hdx
  have hv := hdv.now
  obtain ⟨N, O, hN, hO, hd⟩ := hdv
  obtain ⟨hn, ho⟩ := hd.now
  have HD := Lib.hid hd
  have hs : SigsAt w sv (sigsI b) := hdx.now.1
  have hr : ReqsAt w rv b.2 := hdx.now.2
  clear hd hdx
  have HFO := Lib.hid hv
  have HINN := Lib.hid (show InnV w ((h, b), sv, rv) from ⟨hs, hr⟩)
  clear hv
  have HN := Lib.hid hN
  have HO := Lib.hid (And.intro hO ho)
  have HIN := Lib.hid hn
  have HNL := Lib.hid (show N.length = F.nodes.length by rw [← hN, List.length_map])
  have HL := Lib.hid (show N.length ≤ 1000 by rw [← hN, List.length_map] at hl; exact hl)
  obtain ⟨na, nc, rfl⟩ := iv_shape hn
  obtain ⟨oa, oc, rfl⟩ := iv_shape ho
  obtain ⟨sa, sc, rfl⟩ := sl_of_sigs hs
  obtain ⟨ra, rc, rfl⟩ := sl_of_reqs hr
  clear hN hO hn ho hl hs hr
  obtain ⟨Y, hY⟩ : ∃ Y, standF F (h, b) = Y := ⟨_, rfl⟩
  have HY := Lib.hid hY
  obtain ⟨V, hV⟩ : ∃ V, viewI b = V := ⟨_, rfl⟩
  obtain ⟨PR, hPR⟩ : ∃ PR, propI b = PR := ⟨_, rfl⟩
  obtain ⟨JV, hJV⟩ : ∃ JV, jvI b = JV := ⟨_, rfl⟩
  obtain ⟨K, hK⟩ : ∃ K, parI b = K := ⟨_, rfl⟩
  obtain ⟨m1, hm1⟩ : ∃ m, (sigsI b).length = m := ⟨_, rfl⟩
  obtain ⟨m2, hm2⟩ : ∃ m, b.2.length = m := ⟨_, rfl⟩
  have HENC := Lib.hid (show encV ((h, b), .slice sa (sigsI b).length sc, .slice ra b.2.length rc) = [.string h, .int .i64 V, .int .i64 PR, .int .i64 JV, .string K, .slice sa m1 sc, .slice ra m2 rc] by rw [← hV, ← hPR, ← hJV, ← hK, ← hm1, ← hm2]; rfl)
  obtain ⟨P, hP⟩ : ∃ P, atI F.nodes K = P := ⟨_, rfl⟩
  have HP := Lib.hid hP
  have HBAD := Lib.hid (show badF F b ↔ 0 ≤ P ∧ (V ≤ viewI (F.nodes.getD P.toNat i0).2 ∨ V ≤ JV ∨ JV ≠ viewI (F.nodes.getD P.toNat i0).2) by unfold badF; rw [hV, hJV, hK, hP])
  rw [hY, hV, hPR, hJV, hK, hm1, hm2]
  rw [hm1, hm2] at HINN HENC HDX
  clear hY hV hPR hJV hK hP hm1 hm2
  obtain ⟨BD, hBD⟩ : ∃ BD, decide (badF F b) = BD := ⟨_, rfl⟩
  have HBD := Lib.hid hBD
  clear hBD
  have PB := Lib.hid (show (0 ≤ P ∨ P = -1) ∧ P < (N.length : Int) by have h1 := at_nonneg F.nodes K; have h2 := at_bound F.nodes K; rw [HP.out] at h1 h2; rw [HNL.out]; exact ⟨h1, h2.2⟩)
  have K0 := Lib.hid (PuS.mk3 w [.string F.root, .int .i64 F.height, .slice na N.length nc, .slice oa O.length oc] [.string h, .int .i64 V, .int .i64 PR, .int .i64 JV, .string K, .slice sa m1 sc, .slice ra m2 rc] [.string ⟨#[]⟩, .int .i64 0, .slice none 0 0, .slice none 0 0] 54 140 54 rfl rfl rfl)
  obtain ⟨g, hg⟩ : ∃ g, w.heap.size = g := ⟨_, rfl⟩
  have HG := Lib.hid hg
  go_enter Tryd.func92, Tryd.ntmps92
  go_upto_region 1 with fail
  rw [hg] at K0
  have K1 := Lib.hid K0.out
  generalize hw1 : ((w.alloc (.cells #[.string F.root, .int .i64 F.height, .slice na N.length nc, .slice oa O.length oc] 54)).alloc (.cells #[.string h, .int .i64 V, .int .i64 PR, .int .i64 JV, .string K, .slice sa m1 sc, .slice ra m2 rc] 140)).alloc (.cells #[.string ⟨#[]⟩, .int .i64 0, .slice none 0 0, .slice none 0 0] 54) = w1
  have K1 := Lib.hid (show PuS w g (rowL [.string F.root, .int .i64 F.height, .slice na N.length nc, .slice oa O.length oc]) (rowL [.string h, .int .i64 V, .int .i64 PR, .int .i64 JV, .string K, .slice sa m1 sc, .slice ra m2 rc]) (rowL [.string ⟨#[]⟩, .int .i64 0, .slice none 0 0, .slice none 0 0]) w1 by rw [← hw1]; exact K0.out)
  clear hw1 K0 hg
  obtain ⟨FF1, hF1⟩ : ∃ f, rowL [.string F.root, .int .i64 F.height, .slice na N.length nc, .slice oa O.length oc] = f := ⟨_, rfl⟩
  obtain ⟨FF2, hF2⟩ : ∃ f, rowL [.string h, .int .i64 V, .int .i64 PR, .int .i64 JV, .string K, .slice sa m1 sc, .slice ra m2 rc] = f := ⟨_, rfl⟩
  obtain ⟨FF3, hF3⟩ : ∃ f, rowL [.string ⟨#[]⟩, .int .i64 0, .slice none 0 0, .slice none 0 0] = f := ⟨_, rfl⟩
  have E1 := Lib.hid hF1
  have E2 := Lib.hid hF2
  have E3 := Lib.hid hF3
  rw [hF1, hF2, hF3] at K1
  clear hF1 hF2 hF3
  have CA := Lib.hid (show ∀ w', PuS w g FF1 FF2 FF3 w' → w'.cell? ⟨g, 2, none⟩ = some (.slice na N.length nc) from fun w' hS => by have h := hS.a.get 2 (by omega); rw [← E1.out] at h; exact h)
  have CD1 := Lib.hid (show ∀ w', PuS w g FF1 FF2 FF3 w' → w'.cell? ⟨g + 1, 1, none⟩ = some (.int .i64 V) from fun w' hS => by have h := hS.b.get 1 (by omega); rw [← E2.out] at h; exact h)
  have CD3 := Lib.hid (show ∀ w', PuS w g FF1 FF2 FF3 w' → w'.cell? ⟨g + 1, 3, none⟩ = some (.int .i64 JV) from fun w' hS => by have h := hS.b.get 3 (by omega); rw [← E2.out] at h; exact h)
  have c2 : w1.cell? ⟨g, 2, none⟩ = some (.slice na N.length nc) := by rw [K1.out.a.get 2 (by omega), ← E1.out]; rfl
  have d4 : w1.cell? ⟨g + 1, 4, none⟩ = some (.string K) := by rw [K1.out.b.get 4 (by omega), ← E2.out]; rfl
  go_wp2_with fail
  refine (fat_is N F.nodes _ K P HN.out HP.out w1 (HIN.out.later K1.out.below) HL.out).mono ?_
  rintro e w2 ⟨rfl, rfl⟩
  have K2 := Lib.hid K1.out
  clear c2 d4 K1
  go_upto_region 2 with fail
  go_cut [52] from 14 to 52 (fun s wx => s = .bool BD ∧ PuS w g FF1 FF2 FF3 wx)
  case first =>
    by_cases hp : 0 ≤ P
    rotate_left
    · obtain rfl : P = -1 := by have := PB.out.1; omega
      have HF := Lib.hid (show BD = false by rw [← HBD.out]; exact decide_eq_false (fun h9 => by have := HBAD.out.1 h9; omega))
      clear hp
      go_wp2_with fail
      refine plan_abs (PuS w g FF1 FF2 FF3) [(true, 0), (true, 1), (true, 2), (true, 3), (true, 4), (true, 5), (true, 6), (true, 7), (true, 8), (true, 9), (true, 10), (true, 11), (true, 12), (true, 13), (true, 14), (true, 15), (true, 16), (true, 17), (true, 18), (true, 19), (true, 20), (true, 21), (true, 22), (true, 23), (true, 24), (true, 25), (true, 26), (true, 27), (true, 28), (true, 29), (true, 30), (true, 31), (true, 32), (true, 33), (true, 34), (true, 35), (true, 36), (true, 37), (true, 38)] (by kernel_rfl) (by kernel_rfl) (fun _ _ d _ _ h => by cases d <;> exact h) fun w5 hs5 => ⟨K2.out.on (hs5.below _), ?_⟩
      have K5 := Lib.hid (K2.out.on (hs5.below _))
      clear hs5
      iterate 3 (refine pl_run _ ?_ rfl rfl ?_ ?_; rotate_left; (focus (intro w' hS; have c2 := CA.out w' hS; have d1 := CD1.out w' hS; have d3 := CD3.out w' hS; go_simp; exact rfl)); simp only [Act.put, List.setIfInBounds_toArray, List.set_cons_zero, List.set_cons_succ, List.getElem_toArray, List.getElem_cons_zero, List.getElem_cons_succ])
      iterate 35 (refine pl_off _ rfl rfl ?_; simp only [Act.put, List.setIfInBounds_toArray, List.set_cons_zero, List.set_cons_succ, List.getElem_toArray, List.getElem_cons_zero, List.getElem_cons_succ])
      iterate 1 (refine pl_run _ ?_ rfl rfl ?_ ?_; rotate_left; (focus (intro w' hS; have c2 := CA.out w' hS; have d1 := CD1.out w' hS; have d3 := CD3.out w' hS; go_simp; exact rfl)); simp only [Act.put, List.setIfInBounds_toArray, List.set_cons_zero, List.set_cons_succ, List.getElem_toArray, List.getElem_cons_zero, List.getElem_cons_succ])
      refine pl_end ?_
      go_wp2_with fail
      go_meet
      exact ⟨by rw [HF.out], K5.out⟩
    · obtain ⟨pi, rfl⟩ : ∃ pi : Nat, P = (pi : Int) := ⟨P.toNat, by omega⟩
      have hpi : pi < N.length := by have := PB.out.2; omega
      have HPI := Lib.hid hpi
      obtain ⟨nb, noff, rfl, hbw, hcell⟩ : ∃ nb noff, na = some ⟨nb, noff, none⟩ ∧ nb < w.heap.size ∧ _ := by
        obtain ⟨a9, c9, he, h9 | h9⟩ := HIN.out
        · have := HPI.out; rw [h9] at this; simp at this
        · injection he with e1 _ e3
          subst e1
          exact h9
      obtain ⟨NV, hNV⟩ : ∃ NV, viewI (N.getD pi v0).1.2 = NV := ⟨_, rfl⟩
      have HNV := Lib.hid (show viewI (F.nodes.getD ((pi : Int)).toNat i0).2 = NV by rw [Int.toNat_natCast, ← HN.out, map_getD N pi HPI.out]; exact hNV)
      have HB2 := Lib.hid (show badF F b ↔ (V ≤ NV ∨ V ≤ JV ∨ JV ≠ NV) by rw [HBAD.out, HNV.out]; exact ⟨fun h => h.2, fun h => ⟨by omega, h⟩⟩)
      have CNV := Lib.hid (show ∀ w', Below w.heap.size w w' → w'.cell? ⟨nb, noff + pi * 7 + 1, none⟩ = some (.int .i64 NV) from fun w' hb => by rw [(iv_cells hb hbw hcell pi HPI.out).2.1, hNV])
      have hpn : (pi : Int) < (N.length : Int) := by omega
      have hp0 : (0 : Int) ≤ (pi : Int) := by omega
      clear hp hpi hbw hcell hNV
      by_cases h1 : V ≤ NV
      · have HF := Lib.hid (show BD = true by rw [← HBD.out]; exact decide_eq_true (HB2.out.2 (Or.inl h1)))
        go_wp2_with fail
        refine plan_abs (PuS w g FF1 FF2 FF3) [(true, 0), (true, 1), (true, 2), (true, 3), (true, 4), (true, 5), (true, 6), (true, 7), (true, 8), (true, 9), (true, 10), (true, 11), (true, 12), (true, 13), (true, 14), (true, 15), (true, 16), (true, 17), (true, 18), (true, 19), (true, 20), (true, 21), (true, 22), (true, 23), (true, 24), (true, 25), (true, 26), (true, 27), (true, 28), (true, 29), (true, 30), (true, 31), (true, 32), (true, 33), (true, 34), (true, 35), (true, 36), (true, 37), (true, 38)] (by kernel_rfl) (by kernel_rfl) (fun _ _ d _ _ h => by cases d <;> exact h) fun w5 hs5 => ⟨K2.out.on (hs5.below _), ?_⟩
        have K5 := Lib.hid (K2.out.on (hs5.below _))
        clear hs5
        iterate 15 (refine pl_run _ ?_ rfl rfl ?_ ?_; rotate_left; (focus (intro w' hS; have c2 := CA.out w' hS; have d1 := CD1.out w' hS; have d3 := CD3.out w' hS; have p1 : w'.cell? ⟨nb, noff + pi * 7 + 1, none⟩ = some (.int .i64 NV) := CNV.out w' hS.below; go_simp; exact rfl)); simp only [Act.put, List.setIfInBounds_toArray, List.set_cons_zero, List.set_cons_succ, List.getElem_toArray, List.getElem_cons_zero, List.getElem_cons_succ])
        iterate 8 (refine pl_off _ rfl rfl ?_; simp only [Act.put, List.setIfInBounds_toArray, List.set_cons_zero, List.set_cons_succ, List.getElem_toArray, List.getElem_cons_zero, List.getElem_cons_succ])
        iterate 2 (refine pl_run _ ?_ rfl rfl ?_ ?_; rotate_left; (focus (intro w' hS; have c2 := CA.out w' hS; have d1 := CD1.out w' hS; have d3 := CD3.out w' hS; have p1 : w'.cell? ⟨nb, noff + pi * 7 + 1, none⟩ = some (.int .i64 NV) := CNV.out w' hS.below; go_simp; exact rfl)); simp only [Act.put, List.setIfInBounds_toArray, List.set_cons_zero, List.set_cons_succ, List.getElem_toArray, List.getElem_cons_zero, List.getElem_cons_succ])
        iterate 12 (refine pl_off _ rfl rfl ?_; simp only [Act.put, List.setIfInBounds_toArray, List.set_cons_zero, List.set_cons_succ, List.getElem_toArray, List.getElem_cons_zero, List.getElem_cons_succ])
        iterate 2 (refine pl_run _ ?_ rfl rfl ?_ ?_; rotate_left; (focus (intro w' hS; have c2 := CA.out w' hS; have d1 := CD1.out w' hS; have d3 := CD3.out w' hS; have p1 : w'.cell? ⟨nb, noff + pi * 7 + 1, none⟩ = some (.int .i64 NV) := CNV.out w' hS.below; go_simp; exact rfl)); simp only [Act.put, List.setIfInBounds_toArray, List.set_cons_zero, List.set_cons_succ, List.getElem_toArray, List.getElem_cons_zero, List.getElem_cons_succ])
        refine pl_end ?_
        go_wp2_with fail
        go_meet
        exact ⟨by rw [HF.out], K5.out⟩
      · have t1 : decide (V ≤ NV) = false := decide_eq_false h1
        by_cases h2 : V ≤ JV
        · have HF := Lib.hid (show BD = true by rw [← HBD.out]; exact decide_eq_true (HB2.out.2 (Or.inr (Or.inl h2))))
          go_wp2_with fail
          refine plan_abs (PuS w g FF1 FF2 FF3) [(true, 0), (true, 1), (true, 2), (true, 3), (true, 4), (true, 5), (true, 6), (true, 7), (true, 8), (true, 9), (true, 10), (true, 11), (true, 12), (true, 13), (true, 14), (true, 15), (true, 16), (true, 17), (true, 18), (true, 19), (true, 20), (true, 21), (true, 22), (true, 23), (true, 24), (true, 25), (true, 26), (true, 27), (true, 28), (true, 29), (true, 30), (true, 31), (true, 32), (true, 33), (true, 34), (true, 35), (true, 36), (true, 37), (true, 38)] (by kernel_rfl) (by kernel_rfl) (fun _ _ d _ _ h => by cases d <;> exact h) fun w5 hs5 => ⟨K2.out.on (hs5.below _), ?_⟩
          have K5 := Lib.hid (K2.out.on (hs5.below _))
          clear hs5
          iterate 25 (refine pl_run _ ?_ rfl rfl ?_ ?_; rotate_left; (focus (intro w' hS; have c2 := CA.out w' hS; have d1 := CD1.out w' hS; have d3 := CD3.out w' hS; have p1 : w'.cell? ⟨nb, noff + pi * 7 + 1, none⟩ = some (.int .i64 NV) := CNV.out w' hS.below; go_simp; exact rfl)); simp only [Act.put, List.setIfInBounds_toArray, List.set_cons_zero, List.set_cons_succ, List.getElem_toArray, List.getElem_cons_zero, List.getElem_cons_succ])
          iterate 12 (refine pl_off _ rfl rfl ?_; simp only [Act.put, List.setIfInBounds_toArray, List.set_cons_zero, List.set_cons_succ, List.getElem_toArray, List.getElem_cons_zero, List.getElem_cons_succ])
          iterate 2 (refine pl_run _ ?_ rfl rfl ?_ ?_; rotate_left; (focus (intro w' hS; have c2 := CA.out w' hS; have d1 := CD1.out w' hS; have d3 := CD3.out w' hS; have p1 : w'.cell? ⟨nb, noff + pi * 7 + 1, none⟩ = some (.int .i64 NV) := CNV.out w' hS.below; go_simp; exact rfl)); simp only [Act.put, List.setIfInBounds_toArray, List.set_cons_zero, List.set_cons_succ, List.getElem_toArray, List.getElem_cons_zero, List.getElem_cons_succ])
          refine pl_end ?_
          go_wp2_with fail
          go_meet
          exact ⟨by rw [HF.out], K5.out⟩
        · have t2 : decide (V ≤ JV) = false := decide_eq_false h2
          by_cases h3 : JV = NV
          · have HF := Lib.hid (show BD = false by rw [← HBD.out]; exact decide_eq_false (fun h9 => by rcases HB2.out.1 h9 with h | h | h; exact h1 h; exact h2 h; exact h h3))
            have t3 : (JV != NV) = false := by simpa using h3
            have E9 := Lib.hid h3
            clear h3
            go_wp2_with fail
            refine plan_abs (PuS w g FF1 FF2 FF3) [(true, 0), (true, 1), (true, 2), (true, 3), (true, 4), (true, 5), (true, 6), (true, 7), (true, 8), (true, 9), (true, 10), (true, 11), (true, 12), (true, 13), (true, 14), (true, 15), (true, 16), (true, 17), (true, 18), (true, 19), (true, 20), (true, 21), (true, 22), (true, 23), (true, 24), (true, 25), (true, 26), (true, 27), (true, 28), (true, 29), (true, 30), (true, 31), (true, 32), (true, 33), (true, 34), (true, 35), (true, 36), (true, 37), (true, 38)] (by kernel_rfl) (by kernel_rfl) (fun _ _ d _ _ h => by cases d <;> exact h) fun w5 hs5 => ⟨K2.out.on (hs5.below _), ?_⟩
            have K5 := Lib.hid (K2.out.on (hs5.below _))
            clear hs5
            iterate 39 (refine pl_run _ ?_ rfl rfl ?_ ?_; rotate_left; (focus (intro w' hS; have c2 := CA.out w' hS; have d1 := CD1.out w' hS; have d3 := CD3.out w' hS; have p1 : w'.cell? ⟨nb, noff + pi * 7 + 1, none⟩ = some (.int .i64 NV) := CNV.out w' hS.below; go_simp; exact rfl)); simp only [Act.put, List.setIfInBounds_toArray, List.set_cons_zero, List.set_cons_succ, List.getElem_toArray, List.getElem_cons_zero, List.getElem_cons_succ])
            refine pl_end ?_
            go_wp2_with fail
            go_meet
            exact ⟨by first | rw [HF.out, t3] | rw [HF.out], K5.out⟩
          · have HF := Lib.hid (show BD = true by rw [← HBD.out]; exact decide_eq_true (HB2.out.2 (Or.inr (Or.inr h3))))
            have t3 : (JV != NV) = true := by simpa using h3
            have E9 := Lib.hid h3
            clear h3
            go_wp2_with fail
            refine plan_abs (PuS w g FF1 FF2 FF3) [(true, 0), (true, 1), (true, 2), (true, 3), (true, 4), (true, 5), (true, 6), (true, 7), (true, 8), (true, 9), (true, 10), (true, 11), (true, 12), (true, 13), (true, 14), (true, 15), (true, 16), (true, 17), (true, 18), (true, 19), (true, 20), (true, 21), (true, 22), (true, 23), (true, 24), (true, 25), (true, 26), (true, 27), (true, 28), (true, 29), (true, 30), (true, 31), (true, 32), (true, 33), (true, 34), (true, 35), (true, 36), (true, 37), (true, 38)] (by kernel_rfl) (by kernel_rfl) (fun _ _ d _ _ h => by cases d <;> exact h) fun w5 hs5 => ⟨K2.out.on (hs5.below _), ?_⟩
            have K5 := Lib.hid (K2.out.on (hs5.below _))
            clear hs5
            iterate 39 (refine pl_run _ ?_ rfl rfl ?_ ?_; rotate_left; (focus (intro w' hS; have c2 := CA.out w' hS; have d1 := CD1.out w' hS; have d3 := CD3.out w' hS; have p1 : w'.cell? ⟨nb, noff + pi * 7 + 1, none⟩ = some (.int .i64 NV) := CNV.out w' hS.below; go_simp; exact rfl)); simp only [Act.put, List.setIfInBounds_toArray, List.set_cons_zero, List.set_cons_succ, List.getElem_toArray, List.getElem_cons_zero, List.getElem_cons_succ])
            refine pl_end ?_
            go_wp2_with fail
            go_meet
            exact ⟨by first | rw [HF.out, t3] | rw [HF.out], K5.out⟩
  case rest =>
    obtain ⟨rfl, hk2⟩ := hcut
    have K3 := Lib.hid hk2
    have C4 := Lib.hid (show ∀ w', PuS w g FF1 FF2 FF3 w' → (w'.cell? ⟨g, 0, none⟩ = some (.string F.root) ∧ w'.cell? ⟨g, 1, none⟩ = some (.int .i64 F.height) ∧ w'.cell? ⟨g, 2, none⟩ = some (.slice na N.length nc) ∧ w'.cell? ⟨g, 3, none⟩ = some (.slice oa O.length oc)) from fun w' hS => by
      rw [hS.a.get 0 (by omega), hS.a.get 1 (by omega), hS.a.get 2 (by omega), hS.a.get 3 (by omega), ← E1.out]; exact ⟨rfl, rfl, rfl, rfl⟩)
    have C7 := Lib.hid (show ∀ w', PuS w g FF1 FF2 FF3 w' → (w'.cell? ⟨g + 1, 0, none⟩ = some (.string h) ∧ w'.cell? ⟨g + 1, 1, none⟩ = some (.int .i64 V) ∧ w'.cell? ⟨g + 1, 2, none⟩ = some (.int .i64 PR) ∧ w'.cell? ⟨g + 1, 3, none⟩ = some (.int .i64 JV) ∧ w'.cell? ⟨g + 1, 4, none⟩ = some (.string K) ∧ w'.cell? ⟨g + 1, 5, none⟩ = some (.slice sa m1 sc) ∧ w'.cell? ⟨g + 1, 6, none⟩ = some (.slice ra m2 rc)) from fun w' hS => by
      rw [hS.b.get 0 (by omega), hS.b.get 1 (by omega), hS.b.get 2 (by omega), hS.b.get 3 (by omega), hS.b.get 4 (by omega), hS.b.get 5 (by omega), hS.b.get 6 (by omega), ← E2.out]; exact ⟨rfl, rfl, rfl, rfl, rfl, rfl, rfl⟩)
    clear hk2
    cases BD
    rotate_left
    · have HYV := Lib.hid (show Y = (F, 5) by rw [← HY.out]; unfold standF; rw [if_pos (of_decide_eq_true HBD.out)])
      obtain ⟨c0, c1, c2, c3⟩ := C4.out _ K3.out
      have r0 : _ = some (FF3 0) := K3.out.c.get 0 (by omega)
      have r1 : _ = some (FF3 1) := K3.out.c.get 1 (by omega)
      have r2 : _ = some (FF3 2) := K3.out.c.get 2 (by omega)
      have r3 : _ = some (FF3 3) := K3.out.c.get 3 (by omega)
      have z0 := K3.out.c.frz 0
      have z1 := K3.out.c.frz 1
      have z2 := K3.out.c.frz 2
      have z3 := K3.out.c.frz 3
      go_wp2_with fail
      clear c0 c1 c2 c3 r0 r1 r2 r3 z0 z1 z2 z3
      obtain ⟨⟨q0, q1, q2, q3⟩, qu⟩ := set4 K3.out.c (.string F.root) (.int .i64 F.height) (.slice na N.length nc) (.slice oa O.length oc)
      have BF := K3.out.below.trans (qu.below (by rw [HG.out]; omega))
      refine bodyPost_ret (v := .tuple #[.agg #[.string F.root, .int .i64 F.height, .slice na N.length nc, .slice oa O.length oc], .int .i64 5]) (by simp [results, Tryd.results92, go_sem, q0, q1, q2, q3]) rfl ⟨.slice na N.length nc, by rw [HYV.out], by rw [HYV.out]; exact (HDV.out.on (Keeps.of BF)).more fun b h _ => Or.inl h, BF⟩
    · have hbad : ¬ badF F b := of_decide_eq_false HBD.out
      by_cases hbig : 400 ≤ N.length
      · have HYV := Lib.hid (show Y = (F, 7) by rw [← HY.out]; unfold standF; rw [if_neg hbad, if_pos (by rw [← HNL.out]; exact hbig)])
        have hb' : (400 : Int) ≤ (N.length : Int) := by omega
        obtain ⟨c0, c1, c2, c3⟩ := C4.out _ K3.out
        clear hbad hbig
        have r0 : _ = some (FF3 0) := K3.out.c.get 0 (by omega)
        have r1 : _ = some (FF3 1) := K3.out.c.get 1 (by omega)
        have r2 : _ = some (FF3 2) := K3.out.c.get 2 (by omega)
        have r3 : _ = some (FF3 3) := K3.out.c.get 3 (by omega)
        have z0 := K3.out.c.frz 0
        have z1 := K3.out.c.frz 1
        have z2 := K3.out.c.frz 2
        have z3 := K3.out.c.frz 3
        go_wp2_with fail
        clear c0 c1 c2 c3 r0 r1 r2 r3 z0 z1 z2 z3
        obtain ⟨⟨q0, q1, q2, q3⟩, qu⟩ := set4 K3.out.c (.string F.root) (.int .i64 F.height) (.slice na N.length nc) (.slice oa O.length oc)
        have BF := K3.out.below.trans (qu.below (by rw [HG.out]; omega))
        refine bodyPost_ret (v := .tuple #[.agg #[.string F.root, .int .i64 F.height, .slice na N.length nc, .slice oa O.length oc], .int .i64 7]) (by simp [results, Tryd.results92, go_sem, q0, q1, q2, q3]) rfl ⟨.slice na N.length nc, by rw [HYV.out], by rw [HYV.out]; exact (HDV.out.on (Keeps.of BF)).more fun b h _ => Or.inl h, BF⟩
      · have HYV := Lib.hid (show Y = ({ F with nodes := F.nodes ++ [(h, b)] }, 0) by rw [← HY.out]; unfold standF; rw [if_neg hbad, if_neg (by rw [← HNL.out]; exact hbig)])
        have hb' : decide ((400 : Int) ≤ (N.length : Int)) = false := decide_eq_false (by omega)
        obtain ⟨c0, c1, c2, c3⟩ := C4.out _ K3.out
        clear hbad hbig
        go_wp2_with fail
        refine twoE_abs 8 [1, 2, 4] 0 3 5 59 62 64 [(false, 6), (true, 7), (false, 8)] _ _ _ 140 7 N.length (cellsV N) [.string h, .int .i64 V, .int .i64 PR, .int .i64 JV, .string K, .slice sa m1 sc, .slice ra m2 rc] (by kernel_rfl) (by kernel_rfl) (fun _ _ d _ _ h => by cases d <;> exact h) rfl rfl rfl ⟨rfl, rfl, rfl⟩ ⟨rfl, rfl, rfl⟩ ⟨by decide, by decide, by decide⟩ fun w4 hs4 => ?_
        have K4 := Lib.hid (K3.out.on (hs4.below _))
        clear hs4 c0 c1 c2 c3 hb'
        obtain ⟨ti, i1, i2, i3, i4⟩ := info_parts info_item
        iterate 3 (refine pre_run _ ?_ rfl rfl ?_ ?_; rotate_left; (focus (intro w' hS; obtain ⟨c0, c1, c2, c3⟩ := C4.out w' (K4.out.on hS); obtain ⟨d0, d1, d2, d3, d4, d5, d6⟩ := C7.out w' (K4.out.on hS); go_simp; exact rfl)); simp only [Act.put, List.setIfInBounds_toArray, List.set_cons_zero, List.set_cons_succ, List.getElem_toArray, List.getElem_cons_zero, List.getElem_cons_succ])
        refine pre_end ⟨?_, ?_, ?_, ?_⟩
        · rintro a' (rfl | ⟨x, rfl⟩) w' <;> go_simp
        · rintro a' (rfl | ⟨x, rfl⟩ | ⟨x, z, rfl⟩) w' hb <;> go_simp
        · rintro b' a' ha w' hb hown
          have BW := K4.out.below.trans (hb.mono K4.out.below.size)
          obtain ⟨v', w'', hr, ho, hg, hob⟩ := run_append_arg0 (P := Tryd.prog) w4.heap.size 52 52 140 ti _ 7 104 und_items i1 i2 i3 i4 rfl (by decide) b' hown na N.length nc (cellsV N) (cellsV_len N) (iv_none HIN.out) (iv_flat HIN.out BW) (cellsV_one fun x hx => iv_inn HIN.out x hx) (by have := HL.out; unfold maxLen; omega) (by have := HL.out; omega) hb.size
          refine ⟨v', w'', ?_, ho, hg, hob⟩
          rcases ha with rfl | ⟨x, rfl⟩ | ⟨x, rfl⟩
          all_goals exact JJ.run_op_append _ _ _ rfl _ _ rfl rfl hr
        · intro b' v' b7 w' hT
          have HTW := Lib.hid hT
          clear hT
          simp only [Act.put, List.setIfInBounds_toArray, List.set_cons_zero, List.set_cons_succ]
          obtain ⟨u8, w8, hr8, ho8, hg8, _⟩ := run_append_own (P := Tryd.prog) w' w4.heap.size 52 52 140 ti _ 7 104 und_items i1 i2 i3 i4 rfl (by decide) v' N.length (cellsV N) HTW.out.row ⟨b7, 0, none⟩ 1 1 [.string h, .int .i64 V, .int .i64 PR, .int .i64 JV, .string K, .slice sa m1 sc, .slice ra m2 rc] rfl (fun j u hj => by rw [Addr.add_lit, Nat.zero_add]; exact HTW.out.cell j u hj) (by rw [← HENC.out]; exact encV_one HINN.out) (by have := HL.out; unfold maxLen; omega) (by have := HL.out; omega) HTW.out.below.size
          obtain ⟨ua, uc, rfl⟩ : ∃ ua uc, u8 = .slice ua (N.length + 1) uc := by
            rcases ho8.2 with ⟨_, h0⟩ | ⟨q, cp, cur, rfl, _⟩
            · omega
            · exact ⟨_, _, rfl⟩
          have O8 := Lib.hid (show w8.ownsRow w4.heap.size 140 7 (.slice ua (N.length + 1) uc) (N ++ [((h, b), Value.slice sa m1 sc, Value.slice ra m2 rc)]).length (cellsV (N ++ [((h, b), Value.slice sa m1 sc, Value.slice ra m2 rc)])) by
            rw [cellsV_snoc, HENC.out, List.length_append]; exact ho8)
          have B8 := Lib.hid (HTW.out.below.grown hg8 HTW.out.below.size (fun k hk => (HTW.out.row.lt k hk).1))
          have K8 := Lib.hid (K4.out.on B8.out)
          refine pe_value (w' := w8) _ _ rfl rfl (JJ.run_op_append _ _ _ rfl _ _ rfl rfl hr8) B8.out ?_
          clear hr8 ho8 hg8
          simp only [Act.put, List.setIfInBounds_toArray, List.set_cons_zero, List.set_cons_succ, List.getElem_toArray, List.getElem_cons_zero, List.getElem_cons_succ]
          iterate 1 (refine pe_run _ ?_ rfl rfl ?_ ?_; rotate_left; (focus (intro w' hS; go_simp; exact rfl)); simp only [Act.put, List.setIfInBounds_toArray, List.set_cons_zero, List.set_cons_succ, List.getElem_toArray, List.getElem_cons_zero, List.getElem_cons_succ])
          refine pe_last _ rfl ?_
          simp only [List.getElem_toArray, List.getElem_cons_zero, List.getElem_cons_succ]
          obtain ⟨c0, c1, c2, c3⟩ := C4.out _ K8.out
          have f2 := K8.out.a.frz 2
          have K9 := Lib.hid (show PuS w g (put FF1 2 (.slice ua (N.length + 1) uc)) FF2 FF3 (w8.setCell ⟨g, 2, none⟩ (.slice ua (N.length + 1) uc)) from
            ⟨K8.out.below.trans ((Upd.set w8 g 2 _).below (by rw [HG.out]; exact Nat.le_refl _)), K8.out.lo, K8.out.a.set 2 _, K8.out.b.set_other _ _ (by show g + 1 ≠ g; omega), K8.out.c.set_other _ _ (by show g + 1 + 1 ≠ g; omega)⟩)
          have x0 : (w8.setCell ⟨g, 2, none⟩ (.slice ua (N.length + 1) uc)).cell? ⟨g, 0, none⟩ = some (.string F.root) := by have h := K9.out.a.get 0 (by omega); rw [← E1.out] at h; exact h
          have x1 : (w8.setCell ⟨g, 2, none⟩ (.slice ua (N.length + 1) uc)).cell? ⟨g, 1, none⟩ = some (.int .i64 F.height) := by have h := K9.out.a.get 1 (by omega); rw [← E1.out] at h; exact h
          have x2 : (w8.setCell ⟨g, 2, none⟩ (.slice ua (N.length + 1) uc)).cell? ⟨g, 2, none⟩ = some (.slice ua (N.length + 1) uc) := by have h := K9.out.a.get 2 (by omega); rw [← E1.out] at h; exact h
          have x3 : (w8.setCell ⟨g, 2, none⟩ (.slice ua (N.length + 1) uc)).cell? ⟨g, 3, none⟩ = some (.slice oa O.length oc) := by have h := K9.out.a.get 3 (by omega); rw [← E1.out] at h; exact h
          have r0 : _ = some (FF3 0) := K9.out.c.get 0 (by omega)
          have r1 : _ = some (FF3 1) := K9.out.c.get 1 (by omega)
          have r2 : _ = some (FF3 2) := K9.out.c.get 2 (by omega)
          have r3 : _ = some (FF3 3) := K9.out.c.get 3 (by omega)
          have z0 := K9.out.c.frz 0
          have z1 := K9.out.c.frz 1
          have z2 := K9.out.c.frz 2
          have z3 := K9.out.c.frz 3
          go_wp2_with fail
          clear c0 c1 c2 c3 f2 x0 x1 x2 x3 r0 r1 r2 r3 z0 z1 z2 z3
          obtain ⟨⟨q0, q1, q2, q3⟩, qu⟩ := set4 K9.out.c (.string F.root) (.int .i64 F.height) (.slice ua (N.length + 1) uc) (.slice oa O.length oc)
          have BF := K9.out.below.trans (qu.below (by rw [HG.out]; omega))
          have G4 : g + 1 + 1 < w4.heap.size := K4.out.c.lt
          refine bodyPost_ret (v := .tuple #[.agg #[.string F.root, .int .i64 F.height, .slice ua (N.length + 1) uc, .slice oa O.length oc], .int .i64 0]) (by simp [results, Tryd.results92, go_sem, q0, q1, q2, q3]) rfl ⟨.slice ua (N.length + 1) uc, by rw [HYV.out], ?_, BF⟩
          rw [HYV.out]
          refine ⟨N ++ [((h, b), Value.slice sa m1 sc, Value.slice ra m2 rc)], O, by rw [List.map_append, HN.out]; rfl, HO.out.1, ?_⟩
          intro w'' hk
          have KK := (Keeps.of BF).trans (hk.sub fun b h _ => Or.inl h)
          obtain ⟨e3, e4⟩ := HD.out w'' KK
          refine ⟨iv_of_own (row_keep O8.out fun c hc => ?_) fun x hx => ?_, e4⟩
          · have hc4 := (O8.out.lt c hc).1
            rw [hk.block c (Or.inr (by rw [HG.out]; omega)) (by rw [qu.size, (Upd.set w8 g 2 _).size]; exact (O8.out.lt c hc).2), qu.block c (by omega), Below.heap_setCell _ _ _ c (by show c ≠ g; omega)]
          · rcases List.mem_append.1 hx with hx | hx
            · exact iv_inn e3 x hx
            · rw [List.mem_singleton] at hx; subst hx; exact HDX.out w'' KK
end Go.Proofs.YtegkhhegapnkpaaDoor
end
section
open Go Go.RowKit
namespace FF
open WW BB
theorem ready_hit {F : Fo} (i : Nat) (hi : i < F.orph.length) (hn : ∀ j, j < i → hasF F (parI (F.orph.getD j i0).2) = false) (he : hasF F (parI (F.orph.getD i i0).2) = true) : readyF F = some i := by
  unfold readyF
  rw [List.findIdx?_eq_some_iff_getElem]
  refine ⟨hi, by simpa [List.getD, List.getElem?_eq_getElem hi] using he, fun j hj => ?_⟩
  have := hn j hj
  simpa [List.getD, List.getElem?_eq_getElem (show j < F.orph.length by omega)] using this
theorem ready_none {F : Fo} (hn : ∀ j, j < F.orph.length → hasF F (parI (F.orph.getD j i0).2) = false) : readyF F = none := by
  unfold readyF
  rw [List.findIdx?_eq_none_iff]
  intro x hx
  obtain ⟨j, hj, rfl⟩ := List.getElem_of_mem hx
  have := hn j hj
  simpa [List.getD, List.getElem?_eq_getElem hj] using this
theorem stand_root (F : Fo) (x : It) : (standF F x).1.root = F.root := by unfold standF; split; rfl; split <;> rfl
theorem stand_height (F : Fo) (x : It) : (standF F x).1.height = F.height := by unfold standF; split; rfl; split <;> rfl
theorem stand_orph (F : Fo) (x : It) : (standF F x).1.orph = F.orph := by unfold standF; split; rfl; split <;> rfl
theorem stand_len (F : Fo) (x : It) (h : F.nodes.length ≤ 1000) : (standF F x).1.nodes.length ≤ 1000 := by
  unfold standF
  split
  · exact h
  · split
    · exact h
    · simp only [List.length_append, List.length_singleton]; omega
theorem adopt_root : ∀ (m : Nat) (F : Fo), (adoptF m F).root = F.root ∧ (adoptF m F).height = F.height
  | 0, F => ⟨rfl, rfl⟩
  | m + 1, F => by
    unfold adoptF
    split
    · exact ⟨rfl, rfl⟩
    · rename_i i _
      obtain ⟨h1, h2⟩ := adopt_root m (standF { F with orph := F.orph.eraseIdx i } (F.orph.getD i i0)).1
      rw [h1, h2, stand_root, stand_height]; exact ⟨rfl, rfl⟩
/-- the call's two boxes: the forest, the result -/
structure AdS (w : World) (g : Nat) (f1 f3 : Nat → Value) (w' : World) : Prop where
  below : Below w.heap.size w w'
  lo : w.heap.size = g
  a : Blk w' g 4 f1
  c : Blk w' (g + 1) 4 f3
theorem AdS.on {w : World} {g : Nat} {f1 f3 : Nat → Value} {w1 w2 : World} (h : AdS w g f1 f3 w1) (hb : Below w1.heap.size w1 w2) : AdS w g f1 f3 w2 :=
  ⟨h.below.trans (hb.mono h.below.size), h.lo, h.a.below hb h.a.lt, h.c.below hb h.c.lt⟩
theorem AdS.mk2 (w : World) (cs es : List Value) (t s : TypeId) (h1 : cs.toArray = row 4 (rowL cs)) (h3 : es.toArray = row 4 (rowL es)) : AdS w w.heap.size (rowL cs) (rowL es) ((w.alloc (.cells cs.toArray t)).alloc (.cells es.toArray s)) := by
  have b1 := (Below.refl w.heap.size w).alloc (Nat.le_refl _) (.cells cs.toArray t)
  have b2 := b1.alloc b1.size (.cells es.toArray s)
  exact ⟨b2, rfl, (Blk.new' rfl h1).alloc _, Blk.new' (by simp) h3⟩
theorem erase_same (L : List Iv) (i : Nat) (hi : i < L.length) : (L.take (i + 1)).eraseIdx i = (L.take i).eraseIdx i := by
  rw [List.take_add_one, List.getElem?_eq_getElem hi, List.eraseIdx_append_of_length_le (by simp; omega)]
  have : (L.take i).length = i := by simp; omega
  rw [this, Nat.sub_self, List.eraseIdx_of_length_le (l := L.take i) (by omega)]
  simp
theorem erase_more (L : List Iv) (i k : Nat) (hk : k < L.length) (hne : k ≠ i) : (L.take (k + 1)).eraseIdx i = (L.take k).eraseIdx i ++ [L.getD k v0] := by
  have e : L.take (k + 1) = L.take k ++ [L.getD k v0] := by
    rw [List.take_add_one, List.getElem?_eq_getElem hk]; simp [List.getD, List.getElem?_eq_getElem hk]
  have hlen : (L.take k).length = k := by simp; omega
  rw [e]
  by_cases h : i < k
  · rw [List.eraseIdx_append_of_lt_length (by omega)]
  · rw [List.eraseIdx_append_of_length_le (by omega), List.eraseIdx_of_length_le (l := L.take k) (by omega), hlen]
    rw [List.eraseIdx_of_length_le (l := [L.getD k v0]) (by simp; omega)]
theorem map_erase : ∀ (L : List Iv) (i : Nat), (L.eraseIdx i).map Prod.fst = (L.map Prod.fst).eraseIdx i
  | [], _ => rfl
  | x :: r, 0 => rfl
  | x :: r, i + 1 => by
    show x.1 :: (r.eraseIdx i).map Prod.fst = x.1 :: (r.map Prod.fst).eraseIdx i
    rw [map_erase r i]
/-- behind the orphan that was found: its box, and the others -/
structure AdI (w : World) (g : Nat) (f1 f3 fx : Nat → Value) (y : Nat) (e : TypeId) (L : List Iv) (v : Value) (w' : World) : Prop where
  s : AdS w g f1 f3 w'
  x : Blk w' y 7 fx
  lo : g + 1 < y
  row : w'.ownsRow (y + 1) e 7 v L.length (cellsV L)
  shape : ∃ a c, v = .slice a L.length c
theorem cells7_new (w : World) (x : Iv) (t : TypeId) : ∀ j u, (encV x)[j]? = some u → (w.alloc (.cells (encV x).toArray t)).cell? ((⟨w.heap.size, 0, none⟩ : Addr).add j) = some u := by
  intro j u hj
  rw [Addr.add_lit, Nat.zero_add]
  exact cell_new w _ t j _ (by simpa using hj)
end FF
namespace Go.Proofs.YtegkhhegapnkpaaDoor
open FF JJ CC WW BB
/-- what adopt answers, at so many -/
def AdoptAns (m : Nat) : Prop := ∀ (A : Nat → Prop) (F : Fo) (nv ov : Value) (w : World), FoD A w F nv ov → F.nodes.length ≤ 1000 → F.orph.length ≤ 1000 →
  Calls Tryd.prog 93 #[.agg #[.string F.root, .int .i64 F.height, nv, ov], .int .i64 (m : Int)] w fun e w' => ∃ nv' ov', e = .returned (.agg #[.string F.root, .int .i64 F.height, nv', ov']) ∧ FoD (fun b => A b ∨ w.heap.size ≤ b) w' (adoptF m F) nv' ov' ∧ Below w.heap.size w w'
set_option maxRecDepth 100000 in
set_option maxHeartbeats 8000000 in
theorem fadopt_zero : AdoptAns 0 := by
  intro A F nv ov w hd hl ho
  rw [show ((0 : Nat) : Int) = 0 from rfl]
  have HD := Lib.hid hd
  have HFO := Lib.hid hd.now
  obtain ⟨N, O, hN, hO, hn, hoo⟩ := hd.now
  have HL := Lib.hid (show O.length ≤ 1000 by rw [← hO, List.length_map] at ho; exact ho)
  obtain ⟨na, nc, rfl⟩ := iv_shape hn
  obtain ⟨oa, oc, rfl⟩ := iv_shape hoo
  clear hN hO hn hoo hl ho hd
  obtain ⟨g, hg⟩ : ∃ g, w.heap.size = g := ⟨_, rfl⟩
  have HG := Lib.hid hg
  have K0 := Lib.hid (AdS.mk2 w [.string F.root, .int .i64 F.height, .slice na N.length nc, .slice oa O.length oc] [.string ⟨#[]⟩, .int .i64 0, .slice none 0 0, .slice none 0 0] 54 54 rfl rfl)
  go_enter Tryd.func93, Tryd.ntmps93
  go_upto_region 1 with fail
  rw [hg] at K0
  generalize hw1 : ((w.alloc (.cells #[.string F.root, .int .i64 F.height, .slice na N.length nc, .slice oa O.length oc] 54)).alloc (.cells #[.string ⟨#[]⟩, .int .i64 0, .slice none 0 0, .slice none 0 0] 54)) = w1
  have K1 := Lib.hid (show AdS w g (rowL [.string F.root, .int .i64 F.height, .slice na N.length nc, .slice oa O.length oc]) (rowL [.string ⟨#[]⟩, .int .i64 0, .slice none 0 0, .slice none 0 0]) w1 by rw [← hw1]; exact K0.out)
  clear hw1 K0 hg
  obtain ⟨FF1, hF1⟩ : ∃ f, rowL [.string F.root, .int .i64 F.height, .slice na N.length nc, .slice oa O.length oc] = f := ⟨_, rfl⟩
  obtain ⟨FF3, hF3⟩ : ∃ f, rowL [.string ⟨#[]⟩, .int .i64 0, .slice none 0 0, .slice none 0 0] = f := ⟨_, rfl⟩
  have E1 := Lib.hid hF1
  rw [hF1, hF3] at K1
  clear hF1 hF3
  have C4 := Lib.hid (show ∀ w', AdS w g FF1 FF3 w' → (w'.cell? ⟨g, 0, none⟩ = some (.string F.root) ∧ w'.cell? ⟨g, 1, none⟩ = some (.int .i64 F.height) ∧ w'.cell? ⟨g, 2, none⟩ = some (.slice na N.length nc) ∧ w'.cell? ⟨g, 3, none⟩ = some (.slice oa O.length oc)) from fun w' hS => by
    rw [hS.a.get 0 (by omega), hS.a.get 1 (by omega), hS.a.get 2 (by omega), hS.a.get 3 (by omega), ← E1.out]; exact ⟨rfl, rfl, rfl, rfl⟩)
  go_wp2_with fail
  go_loopw [5] (fun x wr => x = .int .i64 0 ∧ w1 = wr) (fun _ _ => 0)
  case atStart => exact ⟨rfl, rfl⟩
  case round =>
    obtain ⟨rfl, rfl⟩ := hrel
    obtain ⟨c0, c1, c2, c3⟩ := C4.out _ K1.out
    by_cases hlt : 0 < O.length
    · have t1 : decide ((0 : Int) < (O.length : Int)) = true := decide_eq_true (by omega)
      have t2 : (0 : Int) < (O.length : Int) := by omega
      clear hlt
      have r0 : _ = some (FF3 0) := K1.out.c.get 0 (by omega)
      have r1 : _ = some (FF3 1) := K1.out.c.get 1 (by omega)
      have r2 : _ = some (FF3 2) := K1.out.c.get 2 (by omega)
      have r3 : _ = some (FF3 3) := K1.out.c.get 3 (by omega)
      have z0 := K1.out.c.frz 0
      have z1 := K1.out.c.frz 1
      have z2 := K1.out.c.frz 2
      have z3 := K1.out.c.frz 3
      go_wp2_with fail
      clear c0 c1 c2 c3 r0 r1 r2 r3 z0 z1 z2 z3
      obtain ⟨⟨q0, q1, q2, q3⟩, qu⟩ := set4 K1.out.c (.string F.root) (.int .i64 F.height) (.slice na N.length nc) (.slice oa O.length oc)
      have BF := K1.out.below.trans (qu.below (by rw [HG.out]; omega))
      refine bodyPost_ret (v := .agg #[.string F.root, .int .i64 F.height, (.slice na N.length nc), (.slice oa O.length oc)]) (by simp [results, Tryd.results93, go_sem, q0, q1, q2, q3]) rfl ⟨_, _, rfl, (HD.out.on (Keeps.of BF)).more fun b h _ => Or.inl h, BF⟩
    · obtain h0 : O.length = 0 := by omega
      have t1 : decide (0 < O.length) = false := decide_eq_false (by omega)
      clear hlt h0
      have r0 : _ = some (FF3 0) := K1.out.c.get 0 (by omega)
      have r1 : _ = some (FF3 1) := K1.out.c.get 1 (by omega)
      have r2 : _ = some (FF3 2) := K1.out.c.get 2 (by omega)
      have r3 : _ = some (FF3 3) := K1.out.c.get 3 (by omega)
      have z0 := K1.out.c.frz 0
      have z1 := K1.out.c.frz 1
      have z2 := K1.out.c.frz 2
      have z3 := K1.out.c.frz 3
      go_wp2_with fail
      clear c0 c1 c2 c3 r0 r1 r2 r3 z0 z1 z2 z3
      obtain ⟨⟨q0, q1, q2, q3⟩, qu⟩ := set4 K1.out.c (.string F.root) (.int .i64 F.height) (.slice na N.length nc) (.slice oa O.length oc)
      have BF := K1.out.below.trans (qu.below (by rw [HG.out]; omega))
      refine bodyPost_ret (v := .agg #[.string F.root, .int .i64 F.height, (.slice na N.length nc), (.slice oa O.length oc)]) (by simp [results, Tryd.results93, go_sem, q0, q1, q2, q3]) rfl ⟨_, _, rfl, (HD.out.on (Keeps.of BF)).more fun b h _ => Or.inl h, BF⟩
set_option maxRecDepth 100000 in
set_option maxHeartbeats 16000000 in
theorem fadopt_step (m : Nat) (hm : m ≤ 100) (ih : AdoptAns m) : AdoptAns (m + 1) := by
  intro A F nv ov w hd hl ho
  obtain ⟨M, hM⟩ : ∃ M : Int, ((m + 1 : Nat) : Int) = M := ⟨_, rfl⟩
  rw [hM]
  have HM := Lib.hid (show M - 1 = (m : Int) by omega)
  have m0 : 0 < M := by omega
  have m1 : M ≤ 101 := by omega
  have IH := Lib.hid ih
  have HD := Lib.hid hd
  have HFO := Lib.hid hd.now
  have HLF := Lib.hid hl
  have HOF := Lib.hid ho
  obtain ⟨N, O, hN, hO, hdd⟩ := hd.cut
  clear hd
  obtain ⟨hn, hoo⟩ := hdd.now
  have HN := Lib.hid hN
  have HO := Lib.hid hO
  have HDD := Lib.hid hdd
  have HIO := Lib.hid hoo
  have HOL := Lib.hid (show O.length = F.orph.length by rw [← hO, List.length_map])
  have HL := Lib.hid (show O.length ≤ 1000 by rw [← hO, List.length_map] at ho; exact ho)
  obtain ⟨na, nc, rfl⟩ := iv_shape hn
  obtain ⟨oa, oc, rfl⟩ := iv_shape hoo
  clear hN hO hn hoo hl ho hM ih hm hdd
  obtain ⟨g, hg⟩ : ∃ g, w.heap.size = g := ⟨_, rfl⟩
  have HG := Lib.hid hg
  have K0 := Lib.hid (AdS.mk2 w [.string F.root, .int .i64 F.height, .slice na N.length nc, .slice oa O.length oc] [.string ⟨#[]⟩, .int .i64 0, .slice none 0 0, .slice none 0 0] 54 54 rfl rfl)
  go_enter Tryd.func93, Tryd.ntmps93
  go_upto_region 1 with fail
  rw [hg] at K0
  generalize hw1 : ((w.alloc (.cells #[.string F.root, .int .i64 F.height, .slice na N.length nc, .slice oa O.length oc] 54)).alloc (.cells #[.string ⟨#[]⟩, .int .i64 0, .slice none 0 0, .slice none 0 0] 54)) = w1
  have K1 := Lib.hid (show AdS w g (rowL [.string F.root, .int .i64 F.height, .slice na N.length nc, .slice oa O.length oc]) (rowL [.string ⟨#[]⟩, .int .i64 0, .slice none 0 0, .slice none 0 0]) w1 by rw [← hw1]; exact K0.out)
  clear hw1 K0 hg
  obtain ⟨FF1, hF1⟩ : ∃ f, rowL [.string F.root, .int .i64 F.height, .slice na N.length nc, .slice oa O.length oc] = f := ⟨_, rfl⟩
  obtain ⟨FF3, hF3⟩ : ∃ f, rowL [.string ⟨#[]⟩, .int .i64 0, .slice none 0 0, .slice none 0 0] = f := ⟨_, rfl⟩
  have E1 := Lib.hid hF1
  rw [hF1, hF3] at K1
  clear hF1 hF3
  have C4 := Lib.hid (show ∀ w', AdS w g FF1 FF3 w' → (w'.cell? ⟨g, 0, none⟩ = some (.string F.root) ∧ w'.cell? ⟨g, 1, none⟩ = some (.int .i64 F.height) ∧ w'.cell? ⟨g, 2, none⟩ = some (.slice na N.length nc) ∧ w'.cell? ⟨g, 3, none⟩ = some (.slice oa O.length oc)) from fun w' hS => by
    rw [hS.a.get 0 (by omega), hS.a.get 1 (by omega), hS.a.get 2 (by omega), hS.a.get 3 (by omega), ← E1.out]; exact ⟨rfl, rfl, rfl, rfl⟩)
  go_wp2_with fail
  go_loopw [5] (fun x wr => ∃ i : Nat, i ≤ O.length ∧ x = .int .i64 (i : Int) ∧ (∀ j, j < i → hasF F (parI (F.orph.getD j i0).2) = false) ∧ AdS w g FF1 FF3 wr) (fun x _ => O.length - (intOf x).toNat)
  case atStart => exact ⟨0, Nat.zero_le _, rfl, fun j hj => absurd hj (Nat.not_lt_zero _), K1.out⟩
  case round =>
    obtain ⟨i, hi, rfl, hall, hst⟩ := hrel
    have HALL := Lib.hid hall
    have K2 := Lib.hid hst
    have i0' : (0 : Int) ≤ (i : Int) := by omega
    have ib : (i : Int) ≤ 1000 := by have := HL.out; omega
    obtain ⟨c0, c1, c2, c3⟩ := C4.out _ hst
    clear hall hst
    by_cases hlt : i < O.length
    · have hlt' : (i : Int) < (O.length : Int) := by omega
      have HLT := Lib.hid hlt
      obtain ⟨ob, ooff, rfl, hbw, hcell⟩ : ∃ ob ooff, oa = some ⟨ob, ooff, none⟩ ∧ ob < w.heap.size ∧ _ := by
        obtain ⟨a9, c9, he, h9 | h9⟩ := HIO.out
        · rw [h9] at hlt; simp at hlt
        · injection he with e1 _ e3
          subst e1
          exact h9
      have HCC := Lib.hid (fun wx (hb : Below w.heap.size w wx) k (hk : k < O.length) => iv_cells hb hbw hcell k hk)
      obtain ⟨p, hp⟩ : ∃ p, parI (O.getD i v0).1.2 = p := ⟨_, rfl⟩
      have CP := Lib.hid (show ∀ w', Below w.heap.size w w' → w'.cell? ⟨ob, ooff + i * 7 + 4, none⟩ = some (.string p) from fun w' hb => by rw [(iv_cells hb hbw hcell i hlt).2.2.2.2.1, hp])
      have HPP := Lib.hid (show parI (F.orph.getD i i0).2 = p by rw [← HO.out, map_getD O i hlt]; exact hp)
      obtain ⟨HB, hHB⟩ : ∃ HB, hasF F p = HB := ⟨_, rfl⟩
      have HHB := Lib.hid hHB
      clear hi hlt hbw hcell hp hHB
      go_wp2_with fail
      clear c0 c1 c2 c3
      refine plan_abs (AdS w g FF1 FF3) [(true, 0), (true, 1), (true, 2), (true, 3), (true, 4), (true, 5), (true, 6), (true, 7), (true, 8), (false, 9)] (by kernel_rfl) (by kernel_rfl) (fun _ _ d _ _ h => by cases d <;> exact h) fun w5 hs5 => ⟨K2.out.on (hs5.below _), ?_⟩
      have K5 := Lib.hid (K2.out.on (hs5.below _))
      clear hs5
      iterate 9 (refine pl_run _ ?_ rfl rfl ?_ ?_; rotate_left; (focus (intro w' hS; obtain ⟨c0, c1, c2, c3⟩ := C4.out w' hS; have p4 := CP.out w' hS.below; go_simp; exact rfl)); simp only [Act.put, List.setIfInBounds_toArray, List.set_cons_zero, List.set_cons_succ, List.getElem_toArray, List.getElem_cons_zero, List.getElem_cons_succ])
      refine pl_call1 _ rfl rfl (by go_simp) (fhas_is F p HB HHB.out _ _ w5 (HFO.out.later K5.out.below) HLF.out) (fun w' hb => K5.out.on hb) fun w6 hb6 => ?_
      have K6 := Lib.hid (K5.out.on hb6)
      clear hb6
      simp only [Act.put, List.setIfInBounds_toArray, List.set_cons_zero, List.set_cons_succ, List.getElem_toArray, List.getElem_cons_zero, List.getElem_cons_succ]
      refine pl_end ?_
      cases HB with
      | false =>
        go_wp2_with fail
        go_roundw
        case rel => exact ⟨i + 1, by have := HLT.out; omega, by go_num, fun j hj => if h : j = i then by subst h; rw [HPP.out]; exact HHB.out else HALL.out j (by omega), K6.out⟩
        case measure => have := HLT.out; simp [intOf]; omega
      | true =>
        have HRD := Lib.hid (ready_hit i (by rw [← HOL.out]; exact HLT.out) HALL.out (by rw [HPP.out]; exact HHB.out))
        obtain ⟨⟨⟨h, b⟩, sv, rv⟩, hx⟩ : ∃ x, O.getD i v0 = x := ⟨_, rfl⟩
        have HX := Lib.hid hx
        have HMEM := Lib.hid (show (((h, b), sv, rv) : Iv) ∈ O by rw [← hx, List.getD_eq_getElem?_getD, List.getElem?_eq_getElem HLT.out]; exact List.getElem_mem HLT.out)
        have hs : SigsAt w sv (sigsI b) := (iv_inn HIO.out _ HMEM.out).1
        have hr : ReqsAt w rv b.2 := (iv_inn HIO.out _ HMEM.out).2
        obtain ⟨sa, sc, rfl⟩ := sl_of_sigs hs
        obtain ⟨ra, rc, rfl⟩ := sl_of_reqs hr
        clear hx hs hr
        have HQ := Lib.hid (show ∀ wx, Below w.heap.size w wx → (wx.cell? ⟨ob, ooff + i * 7, none⟩ = some (.string h) ∧ wx.cell? ⟨ob, ooff + i * 7 + 1, none⟩ = some (.int .i64 (viewI b)) ∧ wx.cell? ⟨ob, ooff + i * 7 + 2, none⟩ = some (.int .i64 (propI b)) ∧ wx.cell? ⟨ob, ooff + i * 7 + 3, none⟩ = some (.int .i64 (jvI b)) ∧ wx.cell? ⟨ob, ooff + i * 7 + 4, none⟩ = some (.string (parI b)) ∧ wx.cell? ⟨ob, ooff + i * 7 + 5, none⟩ = some (.slice sa (sigsI b).length sc) ∧ wx.cell? ⟨ob, ooff + i * 7 + 6, none⟩ = some (.slice ra b.2.length rc)) from fun wx hb => by
          have h9 := HCC.out wx hb i HLT.out; rw [HX.out] at h9; exact h9)
        obtain ⟨q0, q1, q2, q3, q4, q5, q6⟩ := HQ.out w6 K6.out.below
        obtain ⟨c0, c1, c2, c3⟩ := C4.out _ K6.out
        obtain ⟨y, hy⟩ : ∃ y, w6.heap.size = y := ⟨_, rfl⟩
        have Y0 := Lib.hid (show g + 1 < y by rw [← hy]; exact K6.out.c.lt)
        have K7 := Lib.hid (K6.out.on ((Below.refl w6.heap.size w6).alloc (Nat.le_refl _) (.cells #[.string h, .int .i64 (viewI b), .int .i64 (propI b), .int .i64 (jvI b), .string (parI b), .slice sa (sigsI b).length sc, .slice ra b.2.length rc] 140)))
        have X7 := Lib.hid (show Blk (w6.alloc (.cells #[.string h, .int .i64 (viewI b), .int .i64 (propI b), .int .i64 (jvI b), .string (parI b), .slice sa (sigsI b).length sc, .slice ra b.2.length rc] 140)) y 7 (rowL [.string h, .int .i64 (viewI b), .int .i64 (propI b), .int .i64 (jvI b), .string (parI b), .slice sa (sigsI b).length sc, .slice ra b.2.length rc]) from Blk.new' hy.symm rfl)
        go_wp2_with fail
        generalize w6.alloc (.cells #[.string h, .int .i64 (viewI b), .int .i64 (propI b), .int .i64 (jvI b), .string (parI b), .slice sa (sigsI b).length sc, .slice ra b.2.length rc] 140) = w7 at *
        clear q0 q1 q2 q3 q4 q5 q6 c0 c1 c2 c3 hy
        obtain ⟨FX, hFX⟩ : ∃ f, rowL [.string h, .int .i64 (viewI b), .int .i64 (propI b), .int .i64 (jvI b), .string (parI b), .slice sa (sigsI b).length sc, .slice ra b.2.length rc] = f := ⟨_, rfl⟩
        have EX := Lib.hid hFX
        rw [hFX] at X7
        clear hFX
        go_loopw [7, 8] (fun x z wr => ∃ (k : Nat) (v : Value), k ≤ O.length ∧ x = v ∧ z = .int .i64 (k : Int) ∧ AdI w g FF1 FF3 FX y 140 ((O.take k).eraseIdx i) v wr) (fun _ z _ => O.length - (intOf z).toNat)
        case atStart => exact ⟨0, _, Nat.zero_le _, rfl, rfl, ⟨K7.out, X7.out, Y0.out, World.ownsRow_nil _ _ _ _, ⟨none, 0, rfl⟩⟩⟩
        case round =>
          obtain ⟨k, v, hk, rfl, rfl, hst⟩ := hrel
          have HI := Lib.hid hst
          have k0 : (0 : Int) ≤ (k : Int) := by omega
          have kb : (k : Int) ≤ 1000 := by have := HL.out; omega
          obtain ⟨c0, c1, c2, c3⟩ := C4.out _ hst.s
          obtain ⟨va, vc, rfl⟩ := hst.shape
          clear hst
          by_cases hkl : k < O.length
          · have hkl' : (k : Int) < (O.length : Int) := by omega
            have HKL := Lib.hid hkl
            clear hk hkl
            by_cases hki : k = i
            · subst hki
              have HES := Lib.hid (erase_same O k HKL.out)
              have t1 : ((k : Int) == (k : Int)) = true := by simp
              go_wp2_with fail
              go_roundw
              case rel => exact ⟨k + 1, _, by have := HKL.out; omega, rfl, by go_num, by rw [HES.out]; exact HI.out⟩
              case measure => have := HKL.out; simp [intOf]; omega
            · have t1 : ((k : Int) == (i : Int)) = false := by simp; omega
              have HEM := Lib.hid (erase_more O i k HKL.out hki)
              clear hki
              obtain ⟨⟨⟨h2, b2⟩, sv2, rv2⟩, hx2⟩ : ∃ x, O.getD k v0 = x := ⟨_, rfl⟩
              have hme2 : (((h2, b2), sv2, rv2) : Iv) ∈ O := by rw [← hx2, List.getD_eq_getElem?_getD, List.getElem?_eq_getElem HKL.out]; exact List.getElem_mem HKL.out
              have hs : SigsAt w sv2 (sigsI b2) := (iv_inn HIO.out _ hme2).1
              have hr : ReqsAt w rv2 b2.2 := (iv_inn HIO.out _ hme2).2
              have HONE := Lib.hid (encV_one (iv_inn HIO.out _ hme2))
              obtain ⟨sa2, sc2, rfl⟩ := sl_of_sigs hs
              obtain ⟨ra2, rc2, rfl⟩ := sl_of_reqs hr
              have h9 := HCC.out wr HI.out.s.below k HKL.out
              rw [hx2] at h9 HEM
              obtain ⟨q0, q1, q2, q3, q4, q5, q6⟩ : (wr.cell? ⟨ob, ooff + k * 7, none⟩ = some (.string h2) ∧ wr.cell? ⟨ob, ooff + k * 7 + 1, none⟩ = some (.int .i64 (viewI b2)) ∧ wr.cell? ⟨ob, ooff + k * 7 + 2, none⟩ = some (.int .i64 (propI b2)) ∧ wr.cell? ⟨ob, ooff + k * 7 + 3, none⟩ = some (.int .i64 (jvI b2)) ∧ wr.cell? ⟨ob, ooff + k * 7 + 4, none⟩ = some (.string (parI b2)) ∧ wr.cell? ⟨ob, ooff + k * 7 + 5, none⟩ = some (.slice sa2 (sigsI b2).length sc2) ∧ wr.cell? ⟨ob, ooff + k * 7 + 6, none⟩ = some (.slice ra2 b2.2.length rc2)) := h9
              clear hs hr hx2 hme2
              have hrow := HI.out.row
              have HLL := Lib.hid (show ((O.take k).eraseIdx i).length ≤ 1000 from Nat.le_trans (List.length_eraseIdx_le _ _) (Nat.le_trans (by rw [List.length_take]; exact Nat.min_le_right _ _) HL.out))
              obtain ⟨Lk, hLk⟩ : ∃ Lk, (O.take k).eraseIdx i = Lk := ⟨_, rfl⟩
              rw [hLk] at hrow HEM HLL ⊢
              obtain ⟨ck, hck⟩ : ∃ ck, cellsV Lk = ck := ⟨_, rfl⟩
              have HCK := Lib.hid hck
              rw [hck] at hrow
              have HROW := Lib.hid hrow
              have A3 := Lib.hid ((Below.refl wr.heap.size wr).alloc (Nat.le_refl _) (.cells #[.string h2, .int .i64 (viewI b2), .int .i64 (propI b2), .int .i64 (jvI b2), .string (parI b2), .slice sa2 (sigsI b2).length sc2, .slice ra2 b2.2.length rc2] 140))
              have R3 := Lib.hid (row_keep HROW.out fun c hc => A3.out.block c (HROW.out.lt c hc).2)
              have HQ3 := Lib.hid (show Lk.length + 1 ≤ maxLen by have := HLL.out; unfold maxLen; omega)
              have HQ4 := Lib.hid (show (Lk.length + 1) * 104 ≤ 140737488355328 by have := HLL.out; omega)
              have HZ := Lib.hid (show y + 1 ≤ wr.heap.size from HI.out.x.lt)
              have HC7 := Lib.hid (show ∀ j u, [Value.string h2, .int .i64 (viewI b2), .int .i64 (propI b2), .int .i64 (jvI b2), .string (parI b2), .slice sa2 (sigsI b2).length sc2, .slice ra2 b2.2.length rc2][j]? = some u → (wr.alloc (.cells #[.string h2, .int .i64 (viewI b2), .int .i64 (propI b2), .int .i64 (jvI b2), .string (parI b2), .slice sa2 (sigsI b2).length sc2, .slice ra2 b2.2.length rc2] 140)).cell? ((⟨wr.heap.size, 0, none⟩ : Addr).add j) = some u from cells7_new wr ((h2, b2), .slice sa2 (sigsI b2).length sc2, .slice ra2 b2.2.length rc2) _)
              obtain ⟨ti, i1, i2, i3, i4⟩ := info_parts info_item
              clear hrow hLk hck
              go_wp2_with (at_builtin; refine wpList_append_own _ rfl _ _ 52 rfl (y + 1) 140 ti (.agg #[.string ⟨#[]⟩, .int .i64 0, .int .i64 0, .int .i64 0, .string ⟨#[]⟩, .slice none 0 0, .slice none 0 0]) 7 104 und_items i1 i2 i3 i4 rfl (by decide) _ _ _ rfl R3.out ⟨wr.heap.size, 0, none⟩ 1 1 [.string h2, .int .i64 (viewI b2), .int .i64 (propI b2), .int .i64 (jvI b2), .string (parI b2), .slice sa2 (sigsI b2).length sc2, .slice ra2 b2.2.length rc2] rfl rfl HC7.out HONE.out HQ3.out HQ4.out (sz_alloc HZ.out _) ?_)
              intro u' w8 hown' hgr _
              obtain ⟨a', c', rfl⟩ : ∃ a' c', u' = .slice a' (Lk.length + 1) c' := by
                rcases hown'.2 with ⟨_, h0⟩ | ⟨q, cp, cur, rfl, _⟩
                · omega
                · exact ⟨_, _, rfl⟩
              have BX := Lib.hid ((Below.refl (y + 1) (wr.alloc (.cells #[.string h2, .int .i64 (viewI b2), .int .i64 (propI b2), .int .i64 (jvI b2), .string (parI b2), .slice sa2 (sigsI b2).length sc2, .slice ra2 b2.2.length rc2] 140))).grown hgr (sz_alloc HZ.out _) (fun k hk => (R3.out.lt k hk).1))
              have R4 := Lib.hid (show w8.ownsRow (y + 1) 140 7 (.slice a' (Lk.length + 1) c') (Lk ++ [((h2, b2), Value.slice sa2 (sigsI b2).length sc2, Value.slice ra2 b2.2.length rc2)]).length (cellsV (Lk ++ [((h2, b2), Value.slice sa2 (sigsI b2).length sc2, Value.slice ra2 b2.2.length rc2)])) by
                rw [cellsV_snoc, HCK.out, List.length_append]; exact hown')
              have I4 := Lib.hid (show AdI w g FF1 FF3 FX y 140 (Lk ++ [((h2, b2), Value.slice sa2 (sigsI b2).length sc2, Value.slice ra2 b2.2.length rc2)]) (.slice a' (Lk.length + 1) c') w8 from by
                have s3 := HI.out.s.on A3.out
                have x3 := HI.out.x.below A3.out HI.out.x.lt
                exact ⟨⟨s3.below.trans (BX.out.mono (by have := Y0.out; rw [HG.out]; omega)), s3.lo, s3.a.below BX.out (by have := Y0.out; omega), s3.c.below BX.out (by have := Y0.out; omega)⟩, x3.below BX.out (by omega), Y0.out, R4.out, ⟨a', c', by rw [List.length_append]; rfl⟩⟩)
              clear hown' hgr q0 q1 q2 q3 q4 q5 q6 c0 c1 c2 c3
              go_wp2_with fail
              go_roundw
              case rel => exact ⟨k + 1, _, by have := HKL.out; omega, rfl, by go_num, by rw [HEM.out]; exact I4.out⟩
              case measure => have := HKL.out; simp [intOf]; omega
          · obtain rfl : k = O.length := by omega
            have hkl' : ¬ (O.length : Int) < (O.length : Int) := by omega
            clear hk hkl
            obtain ⟨LE, hLE⟩ : ∃ LE, (O.take O.length).eraseIdx i = LE := ⟨_, rfl⟩
            have HLE := Lib.hid (show LE = O.eraseIdx i by rw [← hLE, List.take_length])
            rw [hLE] at HI ⊢
            clear hLE
            have f3 := HI.out.s.a.frz 3
            have K9 := Lib.hid (show AdS w g (put FF1 3 (.slice va LE.length vc)) FF3 (wr.setCell ⟨g, 3, none⟩ (.slice va LE.length vc)) from
              ⟨HI.out.s.below.trans ((Upd.set wr g 3 _).below (by rw [HG.out]; exact Nat.le_refl _)), HI.out.s.lo, HI.out.s.a.set 3 _, HI.out.s.c.set_other _ _ (by show g + 1 ≠ g; omega)⟩)
            have X9 := Lib.hid (show Blk (wr.setCell ⟨g, 3, none⟩ (.slice va LE.length vc)) y 7 FX from HI.out.x.set_other _ _ (by show y ≠ g; have := Y0.out; omega))
            have R9 := Lib.hid (show (wr.setCell ⟨g, 3, none⟩ (.slice va LE.length vc)).ownsRow (y + 1) 140 7 (.slice va LE.length vc) LE.length (cellsV LE) from row_keep HI.out.row fun c hc => Below.heap_setCell _ _ _ c (by show c ≠ g; have := (HI.out.row.lt c hc).1; have := Y0.out; omega))
            have x0 : (wr.setCell ⟨g, 3, none⟩ (.slice va LE.length vc)).cell? ⟨g, 0, none⟩ = some (.string F.root) := by have h := K9.out.a.get 0 (by omega); rw [← E1.out] at h; exact h
            have x1 : (wr.setCell ⟨g, 3, none⟩ (.slice va LE.length vc)).cell? ⟨g, 1, none⟩ = some (.int .i64 F.height) := by have h := K9.out.a.get 1 (by omega); rw [← E1.out] at h; exact h
            have x2 : (wr.setCell ⟨g, 3, none⟩ (.slice va LE.length vc)).cell? ⟨g, 2, none⟩ = some (.slice na N.length nc) := by have h := K9.out.a.get 2 (by omega); rw [← E1.out] at h; exact h
            have x3 : (wr.setCell ⟨g, 3, none⟩ (.slice va LE.length vc)).cell? ⟨g, 3, none⟩ = some (.slice va LE.length vc) := by have h := K9.out.a.get 3 (by omega); rw [← E1.out] at h; exact h
            have d0 : (wr.setCell ⟨g, 3, none⟩ (.slice va LE.length vc)).cell? ⟨y, 0, none⟩ = some (.string h) := by have h := X9.out.get 0 (by omega); rw [← EX.out] at h; exact h
            have d1 : (wr.setCell ⟨g, 3, none⟩ (.slice va LE.length vc)).cell? ⟨y, 1, none⟩ = some (.int .i64 (viewI b)) := by have h := X9.out.get 1 (by omega); rw [← EX.out] at h; exact h
            have d2 : (wr.setCell ⟨g, 3, none⟩ (.slice va LE.length vc)).cell? ⟨y, 2, none⟩ = some (.int .i64 (propI b)) := by have h := X9.out.get 2 (by omega); rw [← EX.out] at h; exact h
            have d3 : (wr.setCell ⟨g, 3, none⟩ (.slice va LE.length vc)).cell? ⟨y, 3, none⟩ = some (.int .i64 (jvI b)) := by have h := X9.out.get 3 (by omega); rw [← EX.out] at h; exact h
            have d4 : (wr.setCell ⟨g, 3, none⟩ (.slice va LE.length vc)).cell? ⟨y, 4, none⟩ = some (.string (parI b)) := by have h := X9.out.get 4 (by omega); rw [← EX.out] at h; exact h
            have d5 : (wr.setCell ⟨g, 3, none⟩ (.slice va LE.length vc)).cell? ⟨y, 5, none⟩ = some (.slice sa (sigsI b).length sc) := by have h := X9.out.get 5 (by omega); rw [← EX.out] at h; exact h
            have d6 : (wr.setCell ⟨g, 3, none⟩ (.slice va LE.length vc)).cell? ⟨y, 6, none⟩ = some (.slice ra b.2.length rc) := by have h := X9.out.get 6 (by omega); rw [← EX.out] at h; exact h
            go_wp2_with fail
            clear x0 x1 x2 x3 d0 d1 d2 d3 d4 d5 d6 f3 c0 c1 c2 c3
            generalize wr.setCell ⟨g, 3, none⟩ (.slice va LE.length vc) = w9 at *
            have FD1 := Lib.hid (show FoD (fun c => (A c ∧ c < w.heap.size) ∨ y + 1 ≤ c) w9 { F with orph := F.orph.eraseIdx i } (.slice na N.length nc) (.slice va LE.length vc) from ⟨N, LE, HN.out, by rw [HLE.out, map_erase, HO.out], fun w'' hk => by
              have KK := (Keeps.of K9.out.below).trans (hk.sub fun c h _ => Or.inl h)
              obtain ⟨e3, e4⟩ := HDD.out w'' KK
              exact ⟨e3, iv_of_own (row_keep R9.out fun c hc => hk.block c (Or.inr (R9.out.lt c hc).1) (R9.out.lt c hc).2) fun x hx => iv_inn e4 x (by rw [HLE.out] at hx; exact List.mem_of_mem_eraseIdx hx)⟩⟩)
            have DX1 := Lib.hid (show Dep (fun c => (A c ∧ c < w.heap.size) ∨ y + 1 ≤ c) w9 (fun w' => InnV w' ((h, b), .slice sa (sigsI b).length sc, .slice ra b.2.length rc)) from fun w'' hk => by
              have KK := (Keeps.of K9.out.below).trans (hk.sub fun c h _ => Or.inl h)
              exact iv_inn (HDD.out w'' KK).2 _ HMEM.out)
            have YW := Lib.hid (show y + 1 ≤ w9.heap.size from X9.out.lt)
            refine (fput1_dep _ _ h b _ _ _ _ w9 FD1.out DX1.out HLF.out).mono ?_
            rintro e w10 ⟨nv2, rfl, hFD, hb10⟩
            have HFD := Lib.hid hFD
            obtain ⟨na2, nn2, nc2, rfl⟩ : ∃ a n c, nv2 = .slice a n c := by
              obtain ⟨N2, O2, _, _, h3, _⟩ := hFD.now
              obtain ⟨a, c, rfl⟩ := iv_shape h3
              exact ⟨a, _, c, rfl⟩
            have K10 := Lib.hid (K9.out.on hb10)
            have HK10 := Lib.hid hb10.size
            have B11 := Lib.hid ((Below.refl w10.heap.size w10).alloc (Nat.le_refl _) (.cells #[.string F.root, .int .i64 F.height, .slice na2 nn2 nc2, .slice va LE.length vc] 54))
            clear hFD hb10
            go_wp2_with fail
            have A11 := Lib.hid (show FoD (fun c => (A c ∧ c < w.heap.size) ∨ y + 1 ≤ c) (w10.alloc (.cells #[.string F.root, .int .i64 F.height, .slice na2 nn2 nc2, .slice va LE.length vc] 54)) (standF { F with orph := F.orph.eraseIdx i } (h, b)).1 (.slice na2 nn2 nc2) (.slice va LE.length vc) from
              (HFD.out.more fun c hc _ => by
                rcases hc with hc | hc
                · exact hc
                · exact Or.inr (Nat.le_trans YW.out hc)).on (Keeps.of B11.out))
            have K11 := Lib.hid (K10.out.on B11.out)
            have G11 := Lib.hid (show y + 1 ≤ (w10.alloc (.cells #[.string F.root, .int .i64 F.height, .slice na2 nn2 nc2, .slice va LE.length vc] 54)).heap.size from Nat.le_trans YW.out (by
              have h1 := HK10.out
              have h2 := B11.out.size
              omega))
            have IHX := IH.out _ _ _ _ _ A11.out (stand_len _ _ HLF.out) (by rw [stand_orph]; exact Nat.le_trans (List.length_eraseIdx_le _ _) HOF.out)
            rw [stand_root, stand_height] at IHX
            rw [HM.out]
            refine IHX.mono ?_
            rintro e w12 ⟨nv3, ov3, rfl, hFD3, hb12⟩
            have HFD3 := Lib.hid hFD3
            obtain ⟨na3, nn3, nc3, rfl⟩ : ∃ a n c, nv3 = .slice a n c := by
              obtain ⟨N2, O2, _, _, h3, _⟩ := hFD3.now
              obtain ⟨a, c, rfl⟩ := iv_shape h3
              exact ⟨a, _, c, rfl⟩
            obtain ⟨oa3, on3, oc3, rfl⟩ : ∃ a n c, ov3 = .slice a n c := by
              obtain ⟨N2, O2, _, _, _, h3⟩ := hFD3.now
              obtain ⟨a, c, rfl⟩ := iv_shape h3
              exact ⟨a, _, c, rfl⟩
            have K12 := Lib.hid (K11.out.on hb12)
            have HAD := Lib.hid (show adoptF (m + 1) F = adoptF m (standF { F with orph := F.orph.eraseIdx i } (h, b)).1 by
              rw [adoptF]
              rw [HRD.out]
              show adoptF m (standF { F with orph := F.orph.eraseIdx i } (F.orph.getD i i0)).1 = _
              rw [show F.orph.getD i i0 = (h, b) by rw [← HO.out, map_getD O i HLT.out, HX.out]])
            clear IHX hFD3 hb12
            have r0 : _ = some (FF3 0) := K12.out.c.get 0 (by omega)
            have r1 : _ = some (FF3 1) := K12.out.c.get 1 (by omega)
            have r2 : _ = some (FF3 2) := K12.out.c.get 2 (by omega)
            have r3 : _ = some (FF3 3) := K12.out.c.get 3 (by omega)
            have z0 := K12.out.c.frz 0
            have z1 := K12.out.c.frz 1
            have z2 := K12.out.c.frz 2
            have z3 := K12.out.c.frz 3
            go_wp2_with fail
            clear r0 r1 r2 r3 z0 z1 z2 z3
            obtain ⟨⟨q0, q1, q2, q3⟩, qu⟩ := set4 K12.out.c (.string F.root) (.int .i64 F.height) (.slice na3 nn3 nc3) (.slice oa3 on3 oc3)
            have BF := K12.out.below.trans (qu.below (by rw [HG.out]; omega))
            refine bodyPost_ret (v := .agg #[.string F.root, .int .i64 F.height, .slice na3 nn3 nc3, .slice oa3 on3 oc3]) (by simp [results, Tryd.results93, go_sem, q0, q1, q2, q3]) rfl ⟨_, _, rfl, ?_, BF⟩
            rw [HAD.out]
            have hy9 := Y0.out
            have hg9 := HG.out
            have hg11 := G11.out
            refine (HFD3.out.on (Keeps.upd qu fun c hc => ?_)).more fun c hc _ => ?_
            · rcases hc with (hc | hc) | hc <;> omega
            · rcases hc with (hc | hc) | hc
              · exact Or.inl hc.1
              · exact Or.inr (by omega)
              · exact Or.inr (by omega)
    · obtain rfl : i = O.length := by omega
      have hlt' : ¬ (O.length : Int) < (O.length : Int) := by omega
      have HF := Lib.hid (show adoptF (m + 1) F = F by unfold adoptF; rw [ready_none (by rw [← HOL.out]; exact HALL.out)])
      clear hi hlt
      have r0 : _ = some (FF3 0) := K2.out.c.get 0 (by omega)
      have r1 : _ = some (FF3 1) := K2.out.c.get 1 (by omega)
      have r2 : _ = some (FF3 2) := K2.out.c.get 2 (by omega)
      have r3 : _ = some (FF3 3) := K2.out.c.get 3 (by omega)
      have z0 := K2.out.c.frz 0
      have z1 := K2.out.c.frz 1
      have z2 := K2.out.c.frz 2
      have z3 := K2.out.c.frz 3
      go_wp2_with fail
      clear c0 c1 c2 c3 r0 r1 r2 r3 z0 z1 z2 z3
      obtain ⟨⟨q0, q1, q2, q3⟩, qu⟩ := set4 K2.out.c (.string F.root) (.int .i64 F.height) (.slice na N.length nc) (.slice oa O.length oc)
      have BF := K2.out.below.trans (qu.below (by rw [HG.out]; omega))
      refine bodyPost_ret (v := .agg #[.string F.root, .int .i64 F.height, (.slice na N.length nc), (.slice oa O.length oc)]) (by simp [results, Tryd.results93, go_sem, q0, q1, q2, q3]) rfl ⟨_, _, rfl, by rw [HF.out]; exact (HD.out.on (Keeps.of BF)).more fun b h _ => Or.inl h, BF⟩
theorem fadopt_any : ∀ m : Nat, m ≤ 100 → AdoptAns m
  | 0, _ => fadopt_zero
  | m + 1, h => fadopt_step m (by omega) (fadopt_any m (by omega))
end Go.Proofs.YtegkhhegapnkpaaDoor
end
section
open Go Go.RowKit
namespace Go.Proofs.YtegkhhegapnkpaaDoor
open FF JJ CC WW BB
set_option maxRecDepth 100000 in
set_option maxHeartbeats 4000000 in
theorem fnew_any (w : World) : Calls Tryd.prog 28 #[] w fun e w' => e = .returned (.agg #[.string firstD, .int .i64 0, .slice none 0 0, .slice none 0 0]) ∧ Below w.heap.size w w' := by
  have HF := Lib.hid (fun wx => rfirst_any wx)
  obtain ⟨g, hg⟩ : ∃ g, w.heap.size = g := ⟨_, rfl⟩
  have HG := Lib.hid hg
  have B0 := Lib.hid ((Below.refl w.heap.size w).alloc (Nat.le_refl _) (.cells #[.string ⟨#[]⟩, .int .i64 0, .slice none 0 0, .slice none 0 0] 54))
  have X0 := Lib.hid (show Blk (w.alloc (.cells #[.string ⟨#[]⟩, .int .i64 0, .slice none 0 0, .slice none 0 0] 54)) g 4 (rowL [.string ⟨#[]⟩, .int .i64 0, .slice none 0 0, .slice none 0 0]) from Blk.new' hg.symm rfl)
  go_enter Tryd.func28, Tryd.ntmps28
  go_wp2_with fail
  refine (HF.out _).mono ?_
  rintro e w2 ⟨rfl, hb2⟩
  have X2 := Lib.hid (X0.out.below hb2 X0.out.lt)
  have B2 := Lib.hid (B0.out.trans (hb2.mono B0.out.size))
  clear hb2 hg
  have r0 := X2.out.get 0 (by omega)
  have r1 := X2.out.get 1 (by omega)
  have r2 := X2.out.get 2 (by omega)
  have r3 := X2.out.get 3 (by omega)
  have z0 := X2.out.frz 0
  have z1 := X2.out.frz 1
  have z2 := X2.out.frz 2
  have z3 := X2.out.frz 3
  go_wp2_with fail
  obtain ⟨⟨q0, q1, q2, q3⟩, qu⟩ := set4 X2.out (.string firstD) (.int .i64 0) (.slice none 0 0) (.slice none 0 0)
  refine bodyPost_ret (v := .agg #[.string firstD, .int .i64 0, .slice none 0 0, .slice none 0 0]) (by simp [results, Tryd.results28, go_sem, q0, q1, q2, q3]) rfl ⟨rfl, B2.out.trans (qu.below (by rw [HG.out]; exact Nat.le_refl _))⟩
end Go.Proofs.YtegkhhegapnkpaaDoor
end
