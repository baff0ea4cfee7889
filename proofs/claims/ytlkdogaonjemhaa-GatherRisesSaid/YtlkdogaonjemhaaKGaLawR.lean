/-
  The walks of the laws GatherRises and GatherReady, by the bundle.
-/
import Derived.Test.YtlkdogaonjemhaaKFItem
import Derived.Test.YtlkdogaonjemhaaKSlHi
import Derived.Test.YtlkdogaonjemhaaKLNum
import Derived.Test.YtlkdogaonjemhaaKPlanE
import Derived.Test.YtlkdogaonjemhaaKRefSum
import Derived.Test.YtlkdogaonjemhaaKQuad
import Derived.Deep.RegionHeld3
import Derived.Test.YtlkdogaonjemhaaKWText
import Derived.Test.YtlkdogaonjemhaaKJUnlike
import Derived.Laws.AppendOwn
import Derived.Laws.OwnMore
section
open Go Go.RowKit
namespace FF
open WW BB
/-- the blocks of A stay as they are -/
structure Keeps (A : Nat → Prop) (w w' : World) : Prop where
  b0 : Below 0 w w'
  block : ∀ b, A b → b < w.heap.size → w'.heap[b]? = w.heap[b]?
theorem Keeps.refl (A : Nat → Prop) (w : World) : Keeps A w w := ⟨Below.refl 0 w, fun _ _ _ => rfl⟩
theorem Keeps.trans {A : Nat → Prop} {w1 w2 w3 : World} (h : Keeps A w1 w2) (k : Keeps A w2 w3) : Keeps A w1 w3 := ⟨h.b0.trans k.b0, fun b hb hl => (k.block b hb (Nat.lt_of_lt_of_le hl h.b0.size)).trans (h.block b hb hl)⟩
theorem Keeps.of {A : Nat → Prop} {w w' : World} (h : Below w.heap.size w w') : Keeps A w w' := ⟨h.mono (Nat.zero_le _), fun b _ hl => h.block b hl⟩
theorem Keeps.upd {A : Nat → Prop} {c : Nat} {w w' : World} (h : Upd c w w') (hA : ∀ b, A b → b ≠ c) : Keeps A w w' := ⟨h.below (Nat.zero_le _), fun b hb _ => h.block b (hA b hb)⟩
theorem Keeps.sub {A A' : Nat → Prop} {w w' : World} (h : Keeps A w w') (hA : ∀ b, A' b → b < w.heap.size → A b) : Keeps A' w w' := ⟨h.b0, fun b hb hl => h.block b (hA b hb hl) hl⟩
theorem Keeps.below {w w' : World} (h : Keeps (fun b => b < w.heap.size) w w') : Below w.heap.size w w' := ⟨h.b0.os, h.b0.tape, h.b0.output, h.b0.size, fun k hk => h.block k hk hk⟩
/-- what is said of a world rests upon the blocks of A -/
def Dep (A : Nat → Prop) (w : World) (P : World → Prop) : Prop := ∀ w', Keeps A w w' → P w'
theorem Dep.now {A : Nat → Prop} {w : World} {P : World → Prop} (h : Dep A w P) : P w := h w (Keeps.refl A w)
theorem Dep.on {A : Nat → Prop} {w w' : World} {P : World → Prop} (h : Dep A w P) (hk : Keeps A w w') : Dep A w' P := fun w2 h2 => h w2 (hk.trans h2)
theorem Dep.more {A A' : Nat → Prop} {w : World} {P : World → Prop} (h : Dep A w P) (hA : ∀ b, A b → b < w.heap.size → A' b) : Dep A' w P := fun w2 h2 => h w2 (h2.sub hA)
/-- the forest F, resting upon the blocks of A -/
def FoD (A : Nat → Prop) (w : World) (F : Fo) (nv ov : Value) : Prop := ∃ N O : List Iv, N.map Prod.fst = F.nodes ∧ O.map Prod.fst = F.orph ∧ Dep A w (fun w' => IvAt w' nv N ∧ IvAt w' ov O)
theorem FoD.now {A : Nat → Prop} {w : World} {F : Fo} {nv ov : Value} (h : FoD A w F nv ov) : FoAt w F nv ov := by
  obtain ⟨N, O, h1, h2, h3⟩ := h
  exact ⟨N, O, h1, h2, h3.now.1, h3.now.2⟩
theorem FoD.on {A : Nat → Prop} {w w' : World} {F : Fo} {nv ov : Value} (h : FoD A w F nv ov) (hk : Keeps A w w') : FoD A w' F nv ov := by
  obtain ⟨N, O, h1, h2, h3⟩ := h
  exact ⟨N, O, h1, h2, h3.on hk⟩
theorem FoD.more {A A' : Nat → Prop} {w : World} {F : Fo} {nv ov : Value} (h : FoD A w F nv ov) (hA : ∀ b, A b → b < w.heap.size → A' b) : FoD A' w F nv ov := by
  obtain ⟨N, O, h1, h2, h3⟩ := h
  exact ⟨N, O, h1, h2, h3.more hA⟩
theorem FoD.cut {A : Nat → Prop} {w : World} {F : Fo} {nv ov : Value} (h : FoD A w F nv ov) : FoD (fun b => A b ∧ b < w.heap.size) w F nv ov := by
  obtain ⟨N, O, h1, h2, h3⟩ := h
  exact ⟨N, O, h1, h2, fun w2 h4 => h3 w2 (h4.sub fun c hc hl => ⟨hc, hl⟩)⟩
theorem fod_of {w : World} {F : Fo} {nv ov : Value} (h : FoAt w F nv ov) : FoD (fun b => b < w.heap.size) w F nv ov := by
  obtain ⟨N, O, h1, h2, h3, h4⟩ := h
  exact ⟨N, O, h1, h2, fun _ hk => ⟨h3.later hk.below, h4.later hk.below⟩⟩
theorem dep_inn {w : World} {x : Iv} (h : InnV w x) : Dep (fun b => b < w.heap.size) w (fun w' => InnV w' x) := fun _ hk => h.later hk.below
/-- a list as a row -/
def rowL (l : List Value) (i : Nat) : Value := l.getD i undef
/-- the call's three boxes: the forest, the item, the result -/
structure PuS (w : World) (g : Nat) (f1 f2 f3 : Nat → Value) (w' : World) : Prop where
  below : Below w.heap.size w w'
  lo : w.heap.size = g
  a : Blk w' g 4 f1
  b : Blk w' (g + 1) 7 f2
  c : Blk w' (g + 1 + 1) 4 f3
theorem PuS.on {w : World} {g : Nat} {f1 f2 f3 : Nat → Value} {w1 w2 : World} (h : PuS w g f1 f2 f3 w1) (hb : Below w1.heap.size w1 w2) : PuS w g f1 f2 f3 w2 :=
  ⟨h.below.trans (hb.mono h.below.size), h.lo, h.a.below hb h.a.lt, h.b.below hb h.b.lt, h.c.below hb h.c.lt⟩
theorem PuS.mk3 (w : World) (cs ds es : List Value) (t u s : TypeId) (h1 : cs.toArray = row 4 (rowL cs)) (h2 : ds.toArray = row 7 (rowL ds)) (h3 : es.toArray = row 4 (rowL es)) : PuS w w.heap.size (rowL cs) (rowL ds) (rowL es) (((w.alloc (.cells cs.toArray t)).alloc (.cells ds.toArray u)).alloc (.cells es.toArray s)) := by
  have b1 := (Below.refl w.heap.size w).alloc (Nat.le_refl _) (.cells cs.toArray t)
  have b2 := b1.alloc b1.size (.cells ds.toArray u)
  have b3 := b2.alloc b2.size (.cells es.toArray s)
  refine ⟨b3, rfl, ((Blk.new' rfl h1).alloc _).alloc _, (Blk.new' (by simp) h2).alloc _, Blk.new' (by simp) h3⟩
theorem run_append_none_any {P : Program} {w : World} (base : Nat) (t ty e : TypeId) (i : TypeInfo) (size : Nat) (ht : P.underlying t = some (.slice e)) (hi : P.info? e = some i)
    (v : Value) (n : Nat) (xs : List Value) (hown : w.ownsRow base e size v n xs) (c : Nat) :
    (Builtin.append_ #[t, t] ty #[v, .slice none 0 c]).run P w = .ok v w := by
  rcases hown.2 with ⟨rfl, rfl⟩ | ⟨g, cap, cur, rfl, _, _, hnc, _⟩
  · simp [Builtin.append_, run_underlying ht, Go.sizeOf, typeInfo, hi, Builtin.lenOf, Builtin.firstCells]
  · simp [Builtin.append_, run_underlying ht, Go.sizeOf, typeInfo, hi, Builtin.lenOf, Builtin.firstCells, hnc, storeCells]
/-- what was in a slice is appended to an empty row of the call's own -/
theorem run_append_arg0 {P : Program} {w : World} (base : Nat) (t ty e : TypeId) (i : TypeInfo) (z : Value) (size bytes : Nat) (ht : P.underlying t = some (.slice e)) (hi : P.info? e = some i) (hz : i.zero = some z)
    (hsize : i.size = size) (hby : i.bytes = bytes) (hzs : z.cells.size = size) (hsz : 0 < size) (b : Nat) (hown : w.ownsRow base e size (.slice (some ⟨b, 0, none⟩) 0 0) 0 []) (a0 : Option Addr) (j c : Nat) (news : List Value) (hl : news.length = j * size)
    (hn : a0 = none → j = 0) (hnews : ∀ a, a0 = some a → ∀ k u, news[k]? = some u → w.cell? (a.add k) = some u) (h1 : ∀ y ∈ news, y.oneCell' = true)
    (h63 : j ≤ maxLen) (hbytes : j * bytes ≤ 140737488355328) (hbase : base ≤ w.heap.size) :
    ∃ v' w', (Builtin.append_ #[t, t] ty #[.slice (some ⟨b, 0, none⟩) 0 0, .slice a0 j c]).run P w = .ok v' w' ∧ w'.ownsRow base e size v' j news ∧ w.grownBy w' (some b) ∧ ∀ c, v'.ownBlock = some c → c = b ∨ w.heap.size ≤ c := by
  rcases a0 with _ | a
  · obtain rfl := hn rfl
    have hn : news = [] := List.eq_nil_of_length_eq_zero (by simpa using hl)
    subst hn
    exact ⟨_, w, run_append_none_any (P := P) (w := w) base t ty e i size ht hi _ 0 [] hown c, hown, ⟨rfl, rfl, rfl, Nat.le_refl _, fun _ _ _ => rfl⟩, fun c' hc => by
      have hc : some b = some c' := hc
      injection hc with hc
      exact Or.inl hc.symm⟩
  · obtain ⟨v', w', hr, ho, hg, _⟩ := run_append_own (P := P) w base t ty e i z size bytes ht hi hz hsize hby hzs hsz _ 0 [] hown a j c news hl (hnews a rfl) h1 (by simpa using h63) (by simpa using hbytes) hbase
    refine ⟨v', w', hr, by simpa using ho, hg, fun c' hc => ?_⟩
    by_cases hj : j = 0
    · subst hj
      have hn : news = [] := List.eq_nil_of_length_eq_zero (by simpa using hl)
      subst hn
      obtain ⟨cur', hh⟩ : ∃ cur', w.heap[b]? = some (.cells cur' e (0, 0)) := by
        rcases hown.2 with ⟨h, _⟩ | ⟨g', cap', cur', h, _, hh, _⟩
        · cases h
        · injection h with h _ _; injection h with h; injection h with h; subst h; exact ⟨cur', hh⟩
      have h2 := run_append_room (P := P) w t ty e i ht hi b 0 0 cur' hh a 0 c [] (by simp) (by simp) (by simp) (by omega) (by simp)
      rw [hr] at h2
      injection h2 with h2 _
      subst h2
      have hc : some b = some c' := hc
      injection hc with hc
      exact Or.inl hc.symm
    · have h2 := run_append_grow (P := P) w t ty e i z ht hi hz ⟨b, 0, none⟩ 0 0 [] (by simp) (by simp) a j c news (by rw [hsize]; exact hl) (hnews a rfl) (by omega) (by unfold maxLen at h63; omega) (growslice_fits (by omega) (by rw [hby]; simpa using hbytes))
      rw [hr] at h2
      injection h2 with h2 _
      subst h2
      have hc : some w.heap.size = some c' := hc
      injection hc with hc
      exact Or.inr (by omega)
/-- four cells are written -/
theorem set4 {w : World} {a : Nat} {f : Nat → Value} (h : Blk w a 4 f) (u0 u1 u2 u3 : Value) :
    ((((((w.setCell ⟨a, 0, none⟩ u0).setCell ⟨a, 1, none⟩ u1).setCell ⟨a, 2, none⟩ u2).setCell ⟨a, 3, none⟩ u3).cell? ⟨a, 0, none⟩ = some u0 ∧ ((((w.setCell ⟨a, 0, none⟩ u0).setCell ⟨a, 1, none⟩ u1).setCell ⟨a, 2, none⟩ u2).setCell ⟨a, 3, none⟩ u3).cell? ⟨a, 1, none⟩ = some u1 ∧
      ((((w.setCell ⟨a, 0, none⟩ u0).setCell ⟨a, 1, none⟩ u1).setCell ⟨a, 2, none⟩ u2).setCell ⟨a, 3, none⟩ u3).cell? ⟨a, 2, none⟩ = some u2 ∧ ((((w.setCell ⟨a, 0, none⟩ u0).setCell ⟨a, 1, none⟩ u1).setCell ⟨a, 2, none⟩ u2).setCell ⟨a, 3, none⟩ u3).cell? ⟨a, 3, none⟩ = some u3)) ∧
    Upd a w ((((w.setCell ⟨a, 0, none⟩ u0).setCell ⟨a, 1, none⟩ u1).setCell ⟨a, 2, none⟩ u2).setCell ⟨a, 3, none⟩ u3) := by
  have k := ((((h.set 0 u0).set 1 u1).set 2 u2).set 3 u3)
  exact ⟨⟨k.get 0 (by omega), k.get 1 (by omega), k.get 2 (by omega), k.get 3 (by omega)⟩, ((((Upd.refl a w).trans (Upd.set _ _ _ _)).trans (Upd.set _ _ _ _)).trans (Upd.set _ _ _ _)).trans (Upd.set _ _ _ _)⟩
/-- the cells of a slice of items, one behind the other -/
theorem iv_flat {w w' : World} {a0 : Option Addr} {n c : Nat} {L : List Iv} (h : IvAt w (.slice a0 n c) L) (hb : Below w.heap.size w w') : ∀ a, a0 = some a → ∀ k u, (cellsV L)[k]? = some u → w'.cell? (a.add k) = some u := by
  intro a ha k u hu
  obtain ⟨a1, c1, he, h | ⟨b, off, h1, hl, hc⟩⟩ := h
  · subst h; simp [cellsV] at hu
  · injection he with e1 _ _
    rw [ha, h1] at e1
    injection e1 with e1
    subst e1
    have hk : k < L.length * 7 := by rw [← cellsV_len]; exact (List.getElem?_eq_some_iff.1 hu).1
    have hi : k / 7 < L.length := by omega
    have hj : k % 7 < (encV (L.getD (k / 7) v0)).length := by show k % 7 < 7; omega
    have h2 := cellsV_at L (k / 7) (k % 7) _ hi (List.getElem?_eq_getElem hj)
    rw [show k / 7 * 7 + k % 7 = k by omega, hu] at h2
    injection h2 with h2
    have h3 := (hc (k / 7) hi).1 (k % 7) _ (List.getElem?_eq_getElem hj)
    rw [← h2, show off + k / 7 * 7 + k % 7 = off + k by omega] at h3
    rw [Addr.add_lit]
    exact (hb.cell (p := ⟨b, off + k, none⟩) hl).trans h3
theorem iv_none {w : World} {a0 : Option Addr} {n c : Nat} {L : List Iv} (h : IvAt w (.slice a0 n c) L) (h0 : a0 = none) : n = 0 := by
  obtain ⟨a1, c1, he, h | ⟨b, off, h1, _⟩⟩ := h
  · subst h; injection he
  · injection he with e1 _ _
    rw [h0, h1] at e1
    cases e1
end FF
namespace Go.Proofs.Ytlkdogaonjemhaa
open FF JJ WW BB
end Go.Proofs.Ytlkdogaonjemhaa
end
section
open Go Go.RowKit
namespace GA
open WW
/-- what is told: a node, its view -/
abbrev OpG := Int × Int
def opG0 : OpG := (0, 0)
def toldG (n x : Int) (v : Int) (o : OpG) : Int := if o.1 = x ∧ 0 ≤ x ∧ x < n ∧ o.2 ≤ 1000000 then max v o.2 else v
/-- a node's greatest view, of what was told -/
def atA (l : List OpG) (n x : Int) : Int := l.foldl (toldG n x) 0
theorem atA_take {l : List OpG} {i : Nat} (h : i < l.length) (n x : Int) : atA (l.take (i + 1)) n x = toldG n x (atA (l.take i) n x) (l.getD i opG0) := by
  unfold atA
  rw [List.take_add_one, List.getElem?_eq_getElem h, List.foldl_append, List.getD_eq_getElem?_getD, List.getElem?_eq_getElem h]; rfl
theorem fold_atA (n x : Int) : ∀ (l : List OpG) (v : Int), 0 ≤ v ∧ v ≤ 1000000 → 0 ≤ l.foldl (toldG n x) v ∧ l.foldl (toldG n x) v ≤ 1000000
  | [], _, h => h
  | o :: l, v, h => fold_atA n x l _ (by unfold toldG; split <;> omega)
theorem atA_bound (l : List OpG) (n x : Int) : 0 ≤ atA l n x ∧ atA l n x ≤ 1000000 := fold_atA n x l 0 (by omega)
theorem fold_out {n x : Int} (h : ¬ (0 ≤ x ∧ x < n)) : ∀ (l : List OpG) (v : Int), l.foldl (toldG n x) v = v
  | [], _ => rfl
  | o :: l, v => by rw [List.foldl_cons, show toldG n x v o = v by unfold toldG; rw [if_neg (by omega)]]; exact fold_out h l v
theorem atA_out {n x : Int} (h : ¬ (0 ≤ x ∧ x < n)) (l : List OpG) : atA l n x = 0 := fold_out h l 0
/-- the views that the nodes are in -/
def tellG (l : List OpG) (n : Nat) : List Int := (List.range n).map fun (i : Nat) => atA l (n : Int) (i : Int)
def atG (g : List Int) (x : Int) : Int := if 0 ≤ x then g.getD x.toNat 0 else 0
def okG (g : List Int) (x v : Int) : Bool := decide (0 ≤ x ∧ x < (g.length : Int) ∧ v ≤ 1000000 ∧ atG g x < v)
def putG (g : List Int) (x v : Int) : List Int := if okG g x v then g.set x.toNat v else g
def inG (g : List Int) (v : Int) : Nat := g.countP fun u => decide (u = v)
def upG (g : List Int) (v : Int) : Nat := g.countP fun u => decide (v ≤ u)
def bestG (f : Int) (g : List Int) (b v : Int) : Int := if f < (upG g v : Int) then max b v else b
def catchG (g : List Int) : Int := g.foldl (bestG (faultsI (g.length : Int)) g) 0
def InvG (g : List Int) : Prop := 1 ≤ g.length ∧ g.length ≤ 7 ∧ ∀ v ∈ g, 0 ≤ v ∧ v ≤ 1000000
def clampN (n : Int) : Nat := (min (max n 1) 7).toNat
def newG (n : Int) : List Int := List.replicate (clampN n) 0
theorem clampN_is (n : Int) : ((clampN n : Nat) : Int) = min (max n 1) 7 := by unfold clampN; omega
theorem clampN_le (n : Int) : 1 ≤ clampN n ∧ clampN n ≤ 7 := by unfold clampN; omega
theorem inv_newG (n : Int) : InvG (newG n) := by
  have := clampN_le n
  refine ⟨by unfold newG; simp; omega, by unfold newG; simp; omega, fun v hv => ?_⟩
  have := List.eq_of_mem_replicate hv; omega
theorem len_put (g : List Int) (x v : Int) : (putG g x v).length = g.length := by unfold putG; split <;> simp
theorem tell_len (l : List OpG) (n : Nat) : (tellG l n).length = n := by simp [tellG]
theorem tell_getD (l : List OpG) {n j : Nat} (h : j < n) : (tellG l n).getD j 0 = atA l n (j : Int) := by
  rw [List.getD_eq_getElem?_getD, tellG, List.getElem?_map, List.getElem?_range h]; rfl
theorem at_tell (l : List OpG) (n : Nat) (x : Int) : atG (tellG l n) x = atA l n x := by
  unfold atG
  split
  · by_cases h : x < (n : Int)
    · rw [tell_getD l (by omega : x.toNat < n)]; congr 1; omega
    · rw [atA_out (by omega), List.getD_eq_getElem?_getD, List.getElem?_eq_none (by rw [tell_len]; omega)]; rfl
  · rw [atA_out (by omega)]
theorem tell_nil (n : Int) : tellG [] (clampN n) = newG n := by
  apply List.ext_getElem
  · simp [tellG, newG]
  · intro i h1 h2
    simp [tellG, newG, atA]
theorem inv_tell (l : List OpG) {n : Nat} (h : 1 ≤ n ∧ n ≤ 7) : InvG (tellG l n) := by
  refine ⟨by rw [tell_len]; omega, by rw [tell_len]; omega, fun v hv => ?_⟩
  obtain ⟨i, _, rfl⟩ := List.mem_map.1 hv
  exact atA_bound _ _ _
theorem at_bound {g : List Int} (h : InvG g) (x : Int) : 0 ≤ atG g x ∧ atG g x ≤ 1000000 := by
  unfold atG
  split
  · rw [List.getD_eq_getElem?_getD]
    cases hk : g[x.toNat]? with
    | none => simp
    | some v => exact h.2.2 v (List.mem_of_getElem? hk)
  · omega
/-- what one more call does -/
theorem put_tell {l : List OpG} {i n : Nat} (h : i < l.length) : putG (tellG (l.take i) n) (l.getD i opG0).1 (l.getD i opG0).2 = tellG (l.take (i + 1)) n := by
  obtain ⟨⟨x, v⟩, hO⟩ : ∃ o, l.getD i opG0 = o := ⟨_, rfl⟩
  rw [hO]
  show putG (tellG (l.take i) n) x v = _
  have hs : ∀ y, atA (l.take (i + 1)) n y = toldG n y (atA (l.take i) n y) (x, v) := fun y => by rw [atA_take h, hO]
  apply List.ext_getElem
  · rw [len_put, tell_len, tell_len]
  · intro j h1 h2
    rw [tell_len] at h2
    have e2 : (tellG (l.take (i + 1)) n)[j]'(by rw [tell_len]; exact h2) = atA (l.take (i + 1)) n (j : Int) := by simp [tellG]
    have e1 : (tellG (l.take i) n)[j]'(by rw [tell_len]; exact h2) = atA (l.take i) n (j : Int) := by simp [tellG]
    rw [e2, hs]
    unfold toldG
    by_cases hk : okG (tellG (l.take i) n) x v = true
    · have hk' := hk
      unfold okG at hk'
      rw [decide_eq_true_iff, at_tell, tell_len] at hk'
      simp only [putG, hk, if_true, List.getElem_set]
      by_cases hj : x.toNat = j
      · rw [if_pos hj, if_pos ⟨by show x = (j : Int); omega, by omega, by omega, by show v ≤ 1000000; omega⟩]
        have : (j : Int) = x := by omega
        rw [this]
        show v = max _ v
        omega
      · rw [if_neg hj]
        refine Eq.trans e1 ?_
        rw [if_neg (fun hh => hj (by have h0 : x = (j : Int) := hh.1; omega))]
    · have hk' := hk
      unfold okG at hk'
      rw [decide_eq_true_iff, at_tell, tell_len] at hk'
      simp only [putG, hk, if_false, Bool.false_eq_true]
      refine Eq.trans e1 ?_
      split
      · rename_i hh
        obtain ⟨hh1, hh2, hh3, hh4⟩ := hh
        have hx : x = (j : Int) := hh1
        have hv : v ≤ 1000000 := hh4
        subst hx
        show _ = max _ v
        have : ¬ atA (l.take i) n (j : Int) < v := fun hlt => hk' ⟨by omega, by omega, hv, hlt⟩
        omega
      · rfl
theorem ok_tell {l : List OpG} {i n : Nat} (h : i < l.length) : okG (tellG (l.take i) n) (l.getD i opG0).1 (l.getD i opG0).2 = decide (atA (l.take i) n (l.getD i opG0).1 < atA (l.take (i + 1)) n (l.getD i opG0).1) := by
  rw [atA_take h]
  obtain ⟨⟨x, v⟩, hO⟩ : ∃ o, l.getD i opG0 = o := ⟨_, rfl⟩
  rw [hO]
  unfold okG
  rw [at_tell, tell_len]
  apply Bool.eq_iff_iff.2
  rw [decide_eq_true_iff, decide_eq_true_iff]
  show (0 ≤ x ∧ x < (n : Int) ∧ v ≤ 1000000 ∧ _) ↔ _ < toldG n x _ (x, v)
  unfold toldG
  constructor
  · rintro ⟨a, b, c, d⟩
    rw [if_pos ⟨rfl, a, b, c⟩]
    show _ < max _ v
    have : atA (l.take i) n x < v := d
    omega
  · intro hlt
    split at hlt
    · rename_i hh
      have hlt : atA (l.take i) n x < max (atA (l.take i) n x) v := hlt
      exact ⟨hh.2.1, hh.2.2.1, hh.2.2.2, by show atA (l.take i) n x < v; omega⟩
    · exact absurd hlt (Int.lt_irrefl _)
theorem inv_put {g : List Int} (h : InvG g) (x v : Int) : InvG (putG g x v) := by
  refine ⟨by rw [len_put]; exact h.1, by rw [len_put]; exact h.2.1, fun u hu => ?_⟩
  unfold putG at hu
  split at hu
  · rename_i hk
    unfold okG at hk
    rw [decide_eq_true_iff] at hk
    rcases List.mem_or_eq_of_mem_set hu with hu | rfl
    · exact h.2.2 u hu
    · have := at_bound h x; omega
  · exact h.2.2 u hu
/-- nothing falls -/
theorem at_rises (g : List Int) (y v x : Int) : atG g x ≤ atG (putG g y v) x := by
  unfold putG
  split
  · rename_i hk
    unfold okG at hk
    rw [decide_eq_true_iff] at hk
    unfold atG at hk ⊢
    split
    · simp only [List.getD_eq_getElem?_getD, List.getElem?_set]
      split
      · rename_i hx
        rw [if_pos (by omega)]
        rw [if_pos (by omega), hx, List.getD_eq_getElem?_getD] at hk
        show _ ≤ v
        omega
      · exact Int.le_refl _
    · exact Int.le_refl _
  · exact Int.le_refl _
theorem up_set (c : Int) : ∀ (g : List Int) (i : Nat) (v : Int), g.getD i 0 ≤ v → upG g c ≤ upG (g.set i v) c
  | [], _, _, _ => Nat.le_refl _
  | a :: g, 0, v, h => by
    have h : a ≤ v := h
    unfold upG
    rw [List.set_cons_zero, List.countP_cons, List.countP_cons]
    by_cases hc : c ≤ a
    · have : c ≤ v := by omega
      simp [hc, this]
    · simp [hc]
  | a :: g, i + 1, v, h => by
    have := up_set c g i v h
    unfold upG at this ⊢
    rw [List.set_cons_succ, List.countP_cons, List.countP_cons]; omega
theorem up_put (g : List Int) (x v c : Int) : upG g c ≤ upG (putG g x v) c := by
  unfold putG
  split
  · rename_i hk
    unfold okG atG at hk
    rw [decide_eq_true_iff] at hk
    obtain ⟨h0, _, _, h3⟩ := hk
    rw [if_pos h0] at h3
    exact up_set c g _ v (by omega)
  · exact Nat.le_refl _
theorem up_le (g : List Int) {c d : Int} (h : c ≤ d) : upG g d ≤ upG g c := by
  unfold upG
  exact List.countP_mono_left fun u _ hu => by rw [decide_eq_true_iff] at hu ⊢; omega
theorem in_up (g : List Int) (a : Int) : inG g a ≤ upG g a := by
  unfold inG upG
  exact List.countP_mono_left fun u _ hu => by rw [decide_eq_true_iff] at hu ⊢; omega
theorem in_two {a b : Int} (hab : a ≠ b) : ∀ g : List Int, inG g a + inG g b ≤ g.length
  | [] => by simp [inG]
  | u :: g => by
    have := in_two hab g
    unfold inG at this ⊢
    rw [List.countP_cons, List.countP_cons, List.length_cons]
    by_cases h1 : u = a
    · have h2 : ¬ u = b := fun h => hab (h1.symm.trans h)
      simp only [h1, decide_true, if_true]
      rw [if_neg (by rw [decide_eq_true_iff]; exact fun h => hab h)]
      omega
    · rw [if_neg (by rw [decide_eq_true_iff]; exact h1)]
      split <;> omega
theorem best_from (f : Int) (g : List Int) : ∀ (l : List Int) (b : Int), b ≤ l.foldl (bestG f g) b
  | [], b => Int.le_refl b
  | v :: l, b => by
    have := best_from f g l (bestG f g b v)
    have : b ≤ bestG f g b v := by unfold bestG; split <;> omega
    rw [List.foldl_cons]; omega
theorem best_ge {f : Int} {g : List Int} {v : Int} (h : f < (upG g v : Int)) : ∀ (l : List Int) (b : Int), v ∈ l → v ≤ l.foldl (bestG f g) b
  | [], _, hm => by cases hm
  | u :: l, b, hm => by
    rw [List.foldl_cons]
    rcases List.mem_cons.1 hm with rfl | hm
    · have := best_from f g l (bestG f g b v)
      have : v ≤ bestG f g b v := by unfold bestG; rw [if_pos h]; omega
      omega
    · exact best_ge h l _ hm
theorem best_or (f : Int) (g : List Int) : ∀ (l : List Int) (b : Int), l.foldl (bestG f g) b = b ∨ f < (upG g (l.foldl (bestG f g) b) : Int)
  | [], _ => .inl rfl
  | u :: l, b => by
    rw [List.foldl_cons]
    rcases best_or f g l (bestG f g b u) with h | h
    · rw [h]
      unfold bestG
      split
      · rename_i hu
        by_cases hb : b ≤ u
        · right; rw [show max b u = u by omega]; exact hu
        · left; omega
      · exact .inl rfl
    · exact .inr h
theorem least (c : Int) : ∀ g : List Int, (∃ u ∈ g, c ≤ u) → ∃ v ∈ g, c ≤ v ∧ ∀ u ∈ g, c ≤ u → v ≤ u
  | [], h => by obtain ⟨u, hu, _⟩ := h; cases hu
  | a :: g, h => by
    by_cases hg : ∃ u ∈ g, c ≤ u
    · obtain ⟨v, hv, hc, hl⟩ := least c g hg
      by_cases ha : c ≤ a ∧ a ≤ v
      · exact ⟨a, List.mem_cons_self .., ha.1, fun u hu hcu => (List.mem_cons.1 hu).elim (fun e => by omega) (fun hu => by have := hl u hu hcu; omega)⟩
      · exact ⟨v, List.mem_cons_of_mem _ hv, hc, fun u hu hcu => (List.mem_cons.1 hu).elim (fun e => by omega) (fun hu => hl u hu hcu)⟩
    · obtain ⟨u, hu, hc⟩ := h
      rcases List.mem_cons.1 hu with rfl | hu
      · exact ⟨u, List.mem_cons_self .., hc, fun x hx hcx => (List.mem_cons.1 hx).elim (fun e => by omega) (fun hx => absurd ⟨x, hx, hcx⟩ hg)⟩
      · exact absurd ⟨u, hu, hc⟩ hg
/-- what is caught up with -/
theorem catch_ge (g : List Int) (c : Int) : c ≤ catchG g ↔ c ≤ 0 ∨ faultsI (g.length : Int) < (upG g c : Int) := by
  constructor
  · intro h
    unfold catchG at h
    rcases best_or (faultsI (g.length : Int)) g g 0 with e | e
    · exact .inl (by omega)
    · exact .inr (by have := up_le g h; omega)
  · rintro (h | h)
    · have := best_from (faultsI (g.length : Int)) g g 0
      unfold catchG; omega
    · have hf : 0 ≤ faultsI (g.length : Int) := by unfold faultsI; split <;> omega
      have hp : 0 < upG g c := by omega
      obtain ⟨u, hu, hcu⟩ := List.countP_pos_iff.1 hp
      obtain ⟨v, hv, hcv, hl⟩ := least c g ⟨u, hu, of_decide_eq_true hcu⟩
      have he : upG g c ≤ upG g v := by
        unfold upG
        exact List.countP_mono_left fun x hx hcx => by rw [decide_eq_true_iff] at hcx ⊢; exact hl x hx hcx
      have := best_ge (f := faultsI (g.length : Int)) (g := g) (v := v) (by omega) g 0 hv
      unfold catchG; omega
theorem catch_rises (g : List Int) (x v : Int) : catchG g ≤ catchG (putG g x v) := by
  rw [catch_ge, len_put]
  rcases (catch_ge g _).1 (Int.le_refl (catchG g)) with h | h
  · exact .inl h
  · exact .inr (by have := up_put g x v (catchG g); omega)
theorem catch_bound {g : List Int} (h : InvG g) : 0 ≤ catchG g ∧ catchG g ≤ 1000000 := by
  constructor
  · exact (catch_ge g 0).2 (.inl (Int.le_refl 0))
  · by_cases hc : catchG g ≤ 1000000
    · exact hc
    · exfalso
      rcases (catch_ge g _).1 (Int.le_refl (catchG g)) with h' | h'
      · omega
      · have hf : 0 ≤ faultsI (g.length : Int) := by unfold faultsI; split <;> omega
        obtain ⟨u, hu, hcu⟩ := List.countP_pos_iff.1 (show 0 < upG g (catchG g) by omega)
        have := h.2.2 u hu
        have := of_decide_eq_true hcu
        omega
def readyG (g : List Int) (v : Int) : Bool := decide (quorumG (g.length : Int) ≤ (inG g v : Int))
where quorumG (n : Int) : Int := n - faultsI n
theorem ready_two {g : List Int} (hi : InvG g) {a b : Int} (hab : a ≠ b) (ha : readyG g a = true) (hb : readyG g b = true) : False := by
  unfold readyG readyG.quorumG at ha hb
  rw [decide_eq_true_iff] at ha hb
  have := in_two hab g
  have := hi.1
  unfold faultsI at ha hb
  rw [if_neg (by omega)] at ha hb
  omega
theorem ready_catch {g : List Int} (hi : InvG g) {a : Int} (ha : readyG g a = true) : a ≤ catchG g := by
  unfold readyG readyG.quorumG at ha
  rw [decide_eq_true_iff] at ha
  refine (catch_ge g a).2 (.inr ?_)
  have := in_up g a
  have := hi.1
  unfold faultsI at ha ⊢
  rw [if_neg (by omega)] at ha ⊢
  omega
end GA
namespace GA
open FF WW BB
/-- the calls in memory -/
def OpsGAt (w : World) (v : Value) (l : List OpG) : Prop :=
  ∃ a0 cap, v = .slice a0 l.length cap ∧ l.length ≤ cap ∧ (l = [] ∨ ∃ b off, a0 = some ⟨b, off, none⟩ ∧ b < w.heap.size ∧ ∀ i, i < l.length → w.cell? ⟨b, off + i * 2, none⟩ = some (.int .i64 (l.getD i opG0).1) ∧ w.cell? ⟨b, off + i * 2 + 1, none⟩ = some (.int .i64 (l.getD i opG0).2))
theorem opsG_at {w : World} {a0 : Option Addr} {n cap : Nat} {l : List OpG} (h : OpsGAt w (.slice a0 n cap) l) (i : Nat) (hi : i < l.length) :
    ∃ b off, a0 = some ⟨b, off, none⟩ ∧ n = l.length ∧ ∀ wx, Below w.heap.size w wx → wx.cell? ⟨b, off + i * 2, none⟩ = some (.int .i64 (l.getD i opG0).1) ∧ wx.cell? ⟨b, off + i * 2 + 1, none⟩ = some (.int .i64 (l.getD i opG0).2) := by
  obtain ⟨a, c, e, _, h⟩ := h
  injection e with e1 e2 e3
  subst e1 e2 e3
  rcases h with rfl | ⟨b, off, e, hl, hc⟩
  · simp at hi
  · exact ⟨b, off, e, rfl, fun wx hb => ⟨(hb.cell (p := ⟨b, off + i * 2, none⟩) hl).trans (hc i hi).1, (hb.cell (p := ⟨b, off + i * 2 + 1, none⟩) hl).trans (hc i hi).2⟩⟩
theorem opsG_on {w wx : World} {v : Value} {l : List OpG} (h : OpsGAt w v l) (hb : Below w.heap.size w wx) : OpsGAt wx v l := by
  obtain ⟨a, c, e, k, h⟩ := h
  refine ⟨a, c, e, k, h.imp id fun ⟨b, off, e, hl, hc⟩ => ⟨b, off, e, Nat.lt_of_lt_of_le hl hb.size, fun i hi => ⟨(hb.cell (p := ⟨b, off + i * 2, none⟩) hl).trans (hc i hi).1, (hb.cell (p := ⟨b, off + i * 2 + 1, none⟩) hl).trans (hc i hi).2⟩⟩⟩
/-- what lies ahead of an item -/
theorem opsG_take {w : World} {a0 : Option Addr} {n cap : Nat} {l : List OpG} (h : OpsGAt w (.slice a0 n cap) l) (i : Nat) (hi : i ≤ l.length) : OpsGAt w (.slice a0 i cap) (l.take i) := by
  obtain ⟨a, c, e, k, h⟩ := h
  injection e with e1 e2 e3
  subst e1 e2 e3
  refine ⟨_, _, by rw [List.length_take, Nat.min_eq_left hi], by rw [List.length_take]; omega, ?_⟩
  rcases h with rfl | ⟨b, off, e, hl, hc⟩
  · exact .inl (by simp)
  · refine .inr ⟨b, off, e, hl, fun j hj => ?_⟩
    rw [List.length_take] at hj
    have hj' : j < i := by omega
    rw [show (l.take i).getD j opG0 = l.getD j opG0 by rw [List.getD_eq_getElem?_getD, List.getElem?_take, if_pos hj', List.getD_eq_getElem?_getD]]
    exact hc j (by omega)
/-- what fits -/
def MemG (l : List OpG) : Prop := l.length ≤ 9223372036854775807 ∧ ∀ o ∈ l, (-9223372036854775808 ≤ o.1 ∧ o.1 ≤ 9223372036854775807) ∧ -9223372036854775808 ≤ o.2 ∧ o.2 ≤ 9223372036854775807
theorem memG_at {l : List OpG} (h : MemG l) {i : Nat} (hi : i < l.length) : (-9223372036854775808 ≤ (l.getD i opG0).1 ∧ (l.getD i opG0).1 ≤ 9223372036854775807) ∧ -9223372036854775808 ≤ (l.getD i opG0).2 ∧ (l.getD i opG0).2 ≤ 9223372036854775807 := by
  rw [List.getD_eq_getElem?_getD, List.getElem?_eq_getElem hi]; exact h.2 _ (List.getElem_mem hi)
end GA
end
section
open Go Go.RowKit
namespace GA
open FF WW BB
/-- the gather behind a call -/
def Next16 (At : (Nat → Prop) → World → Nat → List Int → Prop) (O : Nat → Prop) (w : World) (g : Nat) (t : List Int) (w' : World) : Prop :=
  ∃ O', At O' w' g t ∧ Keeps (fun b => ¬ O b) w w' ∧ ∀ b, O' b → O b ∨ w.heap.size ≤ b
theorem low16 {A : Nat → Prop} {w w' : World} {n : Nat} (h : Keeps A w w') (hA : ∀ b, b < n → A b) (hn : n ≤ w.heap.size) : Below n w w' :=
  ⟨h.b0.os, h.b0.tape, h.b0.output, h.b0.size, fun k hk => h.block k (hA k hk) (Nat.lt_of_lt_of_le hk hn)⟩
end GA
namespace Go.Proofs.Ytlkdogaonjemhaa
open GA FF WW BB
structure Code16 where
  At : (Nat → Prop) → World → Nat → List Int → Prop
  keep : ∀ {O w w' g t}, At O w g t → Keeps O w w' → At O w' g t
  lt : ∀ {O w g t}, At O w g t → ∀ b, O b → b < w.heap.size
  new : ∀ w (n : Int), -9223372036854775808 ≤ n ∧ n ≤ 9223372036854775807 → Calls Try.prog 7 #[.int .i64 n] w fun e w' => ∃ g O, e = .returned (.pointer (some ⟨g, 0, none⟩)) ∧ At O w' g (newG n) ∧ (∀ b, O b → w.heap.size ≤ b) ∧ Below w.heap.size w w'
  put : ∀ O w g t (x v : Int), At O w g t → InvG t → (-9223372036854775808 ≤ x ∧ x ≤ 9223372036854775807) ∧ -9223372036854775808 ≤ v ∧ v ≤ 9223372036854775807 → Calls Try.prog 10 #[.pointer (some ⟨g, 0, none⟩), .int .i64 x, .int .i64 v] w fun e w' => e = .returned (.bool (okG t x v)) ∧ Next16 At O w g (putG t x v) w'
  at_ : ∀ O w g t (x : Int), At O w g t → InvG t → -9223372036854775808 ≤ x ∧ x ≤ 9223372036854775807 → Calls Try.prog 8 #[.pointer (some ⟨g, 0, none⟩), .int .i64 x] w fun e w' => e = .returned (.int .i64 (atG t x)) ∧ Below w.heap.size w w'
  in_ : ∀ O w g t (v : Int), At O w g t → InvG t → -9223372036854775808 ≤ v ∧ v ≤ 9223372036854775807 → Calls Try.prog 13 #[.pointer (some ⟨g, 0, none⟩), .int .i64 v] w fun e w' => e = .returned (.int .i64 (inG t v : Int)) ∧ Below w.heap.size w w'
  ready : ∀ O w g t (v : Int), At O w g t → InvG t → -9223372036854775808 ≤ v ∧ v ≤ 9223372036854775807 → Calls Try.prog 14 #[.pointer (some ⟨g, 0, none⟩), .int .i64 v] w fun e w' => e = .returned (.bool (readyG t v)) ∧ Below w.heap.size w w'
  catch_ : ∀ O w g t, At O w g t → InvG t → Calls Try.prog 9 #[.pointer (some ⟨g, 0, none⟩)] w fun e w' => e = .returned (.int .i64 (catchG t)) ∧ Below w.heap.size w w'
/-- the gather behind calls of a law that began in w0 -/
def GaX (C : Code16) (w0 : World) (g : Nat) (t : List Int) (w : World) : Prop := ∃ O, C.At O w g t ∧ (∀ b, O b → w0.heap.size ≤ b) ∧ Below w0.heap.size w0 w
theorem GaX.below {C : Code16} {w0 w : World} {g : Nat} {t : List Int} (h : GaX C w0 g t w) : Below w0.heap.size w0 w := by obtain ⟨_, _, _, h⟩ := h; exact h
theorem GaX.on {C : Code16} {w0 w w' : World} {g : Nat} {t : List Int} (h : GaX C w0 g t w) (hb : Below w.heap.size w w') : GaX C w0 g t w' := by
  obtain ⟨O, h1, h2, h3⟩ := h
  exact ⟨O, C.keep h1 (Keeps.of hb), h2, h3.trans (hb.mono h3.size)⟩
theorem ga_new (C : Code16) (w0 w : World) (n : Int) (hb : Below w0.heap.size w0 w) (hn : -9223372036854775808 ≤ n ∧ n ≤ 9223372036854775807) : Calls Try.prog 7 #[.int .i64 n] w fun e w' => ∃ g, e = .returned (.pointer (some ⟨g, 0, none⟩)) ∧ GaX C w0 g (newG n) w' ∧ Below w.heap.size w w' :=
  (C.new w n hn).mono fun _ _ ⟨g, O, he, h1, h2, h3⟩ => ⟨g, he, ⟨O, h1, fun b hO => Nat.le_trans hb.size (h2 b hO), hb.trans (h3.mono hb.size)⟩, h3⟩
theorem ga_put (C : Code16) {w0 w : World} {g : Nat} {t : List Int} (x v : Int) (h : GaX C w0 g t w) (hi : InvG t) (hr : (-9223372036854775808 ≤ x ∧ x ≤ 9223372036854775807) ∧ -9223372036854775808 ≤ v ∧ v ≤ 9223372036854775807) : Calls Try.prog 10 #[.pointer (some ⟨g, 0, none⟩), .int .i64 x, .int .i64 v] w fun e w' => e = .returned (.bool (okG t x v)) ∧ GaX C w0 g (putG t x v) w' := by
  obtain ⟨O, h1, h2, h3⟩ := h
  refine (C.put O w g t x v h1 hi hr).mono fun _ _ ⟨he, O', k1, k2, k3⟩ => ⟨he, O', k1, fun b hb => (k3 b hb).elim (h2 b) (Nat.le_trans h3.size), h3.trans (low16 k2 (fun b hb hO => by have := h2 b hO; omega) h3.size)⟩
theorem ga_at (C : Code16) {w0 w : World} {g : Nat} {t : List Int} (x : Int) (h : GaX C w0 g t w) (hi : InvG t) (hx : -9223372036854775808 ≤ x ∧ x ≤ 9223372036854775807) : Calls Try.prog 8 #[.pointer (some ⟨g, 0, none⟩), .int .i64 x] w fun e w' => e = .returned (.int .i64 (atG t x)) ∧ Below w.heap.size w w' := by
  obtain ⟨O, h1, _⟩ := h; exact C.at_ O w g t x h1 hi hx
theorem ga_in (C : Code16) {w0 w : World} {g : Nat} {t : List Int} (x : Int) (h : GaX C w0 g t w) (hi : InvG t) (hx : -9223372036854775808 ≤ x ∧ x ≤ 9223372036854775807) : Calls Try.prog 13 #[.pointer (some ⟨g, 0, none⟩), .int .i64 x] w fun e w' => e = .returned (.int .i64 (inG t x : Int)) ∧ Below w.heap.size w w' := by
  obtain ⟨O, h1, _⟩ := h; exact C.in_ O w g t x h1 hi hx
theorem ga_ready (C : Code16) {w0 w : World} {g : Nat} {t : List Int} (x : Int) (h : GaX C w0 g t w) (hi : InvG t) (hx : -9223372036854775808 ≤ x ∧ x ≤ 9223372036854775807) : Calls Try.prog 14 #[.pointer (some ⟨g, 0, none⟩), .int .i64 x] w fun e w' => e = .returned (.bool (readyG t x)) ∧ Below w.heap.size w w' := by
  obtain ⟨O, h1, _⟩ := h; exact C.ready O w g t x h1 hi hx
theorem ga_catch (C : Code16) {w0 w : World} {g : Nat} {t : List Int} (h : GaX C w0 g t w) (hi : InvG t) : Calls Try.prog 9 #[.pointer (some ⟨g, 0, none⟩)] w fun e w' => e = .returned (.int .i64 (catchG t)) ∧ Below w.heap.size w w' := by
  obtain ⟨O, h1, _⟩ := h; exact C.catch_ O w g t h1 hi
end Go.Proofs.Ytlkdogaonjemhaa
end
section
open Go Go.RowKit
namespace RR
open FF BB
theorem row2_ (a b : Value) : (#[a, b] : Array Value) = row 2 (rowL [a, b]) := rfl
theorem row3_ (a b c : Value) : (#[a, b, c] : Array Value) = row 3 (rowL [a, b, c]) := rfl
theorem row4_ (a b c d : Value) : (#[a, b, c, d] : Array Value) = row 4 (rowL [a, b, c, d]) := rfl
theorem row6_ (a b c d e f : Value) : (#[a, b, c, d, e, f] : Array Value) = row 6 (rowL [a, b, c, d, e, f]) := rfl
theorem rset2 {w : World} {a : Nat} {f : Nat → Value} (h : Blk w a 2 f) (u0 u1 : Value) :
    Blk ((w.setCell ⟨a, 0, none⟩ u0).setCell ⟨a, 1, none⟩ u1) a 2 (rowL [u0, u1]) ∧ Upd a w ((w.setCell ⟨a, 0, none⟩ u0).setCell ⟨a, 1, none⟩ u1) := by
  refine ⟨((h.set 0 u0).set 1 u1).congr _ fun i hi => ?_, ((Upd.refl a w).trans (Upd.set _ _ _ _)).trans (Upd.set _ _ _ _)⟩
  match i, hi with
  | 0, _ => rfl
  | 1, _ => rfl
theorem rset3 {w : World} {a : Nat} {f : Nat → Value} (h : Blk w a 3 f) (u0 u1 u2 : Value) :
    Blk (((w.setCell ⟨a, 0, none⟩ u0).setCell ⟨a, 1, none⟩ u1).setCell ⟨a, 2, none⟩ u2) a 3 (rowL [u0, u1, u2]) ∧ Upd a w (((w.setCell ⟨a, 0, none⟩ u0).setCell ⟨a, 1, none⟩ u1).setCell ⟨a, 2, none⟩ u2) := by
  refine ⟨(((h.set 0 u0).set 1 u1).set 2 u2).congr _ fun i hi => ?_, (((Upd.refl a w).trans (Upd.set _ _ _ _)).trans (Upd.set _ _ _ _)).trans (Upd.set _ _ _ _)⟩
  match i, hi with
  | 0, _ => rfl
  | 1, _ => rfl
  | 2, _ => rfl
theorem rset6 {w : World} {a : Nat} {f : Nat → Value} (h : Blk w a 6 f) (u0 u1 u2 u3 u4 u5 : Value) :
    Blk ((((((w.setCell ⟨a, 0, none⟩ u0).setCell ⟨a, 1, none⟩ u1).setCell ⟨a, 2, none⟩ u2).setCell ⟨a, 3, none⟩ u3).setCell ⟨a, 4, none⟩ u4).setCell ⟨a, 5, none⟩ u5) a 6 (rowL [u0, u1, u2, u3, u4, u5]) ∧
    Upd a w ((((((w.setCell ⟨a, 0, none⟩ u0).setCell ⟨a, 1, none⟩ u1).setCell ⟨a, 2, none⟩ u2).setCell ⟨a, 3, none⟩ u3).setCell ⟨a, 4, none⟩ u4).setCell ⟨a, 5, none⟩ u5) := by
  refine ⟨((((((h.set 0 u0).set 1 u1).set 2 u2).set 3 u3).set 4 u4).set 5 u5).congr _ fun i hi => ?_, ((((((Upd.refl a w).trans (Upd.set _ _ _ _)).trans (Upd.set _ _ _ _)).trans (Upd.set _ _ _ _)).trans (Upd.set _ _ _ _)).trans (Upd.set _ _ _ _)).trans (Upd.set _ _ _ _)⟩
  match i, hi with
  | 0, _ => rfl
  | 1, _ => rfl
  | 2, _ => rfl
  | 3, _ => rfl
  | 4, _ => rfl
  | 5, _ => rfl
theorem cells2 {w : World} {b : Nat} {x y : Value} (h : Blk w b 2 (rowL [x, y])) : w.cell? ⟨b, 0, none⟩ = some x ∧ w.cell? ⟨b, 1, none⟩ = some y := ⟨h.get 0 (by omega), h.get 1 (by omega)⟩
theorem cells3 {w : World} {b : Nat} {x y z : Value} (h : Blk w b 3 (rowL [x, y, z])) : w.cell? ⟨b, 0, none⟩ = some x ∧ w.cell? ⟨b, 1, none⟩ = some y ∧ w.cell? ⟨b, 2, none⟩ = some z := ⟨h.get 0 (by omega), h.get 1 (by omega), h.get 2 (by omega)⟩
theorem cells4 {w : World} {b : Nat} {x y z u : Value} (h : Blk w b 4 (rowL [x, y, z, u])) : w.cell? ⟨b, 0, none⟩ = some x ∧ w.cell? ⟨b, 1, none⟩ = some y ∧ w.cell? ⟨b, 2, none⟩ = some z ∧ w.cell? ⟨b, 3, none⟩ = some u := ⟨h.get 0 (by omega), h.get 1 (by omega), h.get 2 (by omega), h.get 3 (by omega)⟩
theorem cells6 {w : World} {b : Nat} {x y z u v t : Value} (h : Blk w b 6 (rowL [x, y, z, u, v, t])) : w.cell? ⟨b, 0, none⟩ = some x ∧ w.cell? ⟨b, 1, none⟩ = some y ∧ w.cell? ⟨b, 2, none⟩ = some z ∧ w.cell? ⟨b, 3, none⟩ = some u ∧ w.cell? ⟨b, 4, none⟩ = some v ∧ w.cell? ⟨b, 5, none⟩ = some t :=
  ⟨h.get 0 (by omega), h.get 1 (by omega), h.get 2 (by omega), h.get 3 (by omega), h.get 4 (by omega), h.get 5 (by omega)⟩
end RR
namespace BB
/-- a store in a plan -/
theorem pl_store {P : Program} {ops : Array Oper} {S : World → Prop} {Q : Exit → Act → World → Prop} {i : Nat} {r : List (Bool × Nat)} {a : Act} {w w' : World} (o : Oper) (ho : ops[i]? = some o) (hg : o.guard = none) (h : (execOp a.eval o).run P w = .ok .skip w') (hS : S w') (hK : wpPlan P ops Q S r (a.put o.dst undef) w') : wpPlan P ops Q S ((false, i) :: r) a w := by
  show wpOp P ops Q i _ a w
  unfold wpOp; simp only [ho, Region.wanted, hg, if_true]
  left; unfold Oper.wp; rw [h]; exact ⟨hS, hK⟩
theorem pe_store {P : Program} {ops : Array Oper} {S : World → Prop} {Q : Exit → Act → World → Prop} {t i : Nat} {r : List (Bool × Nat)} {a : Act} {w w' : World} (o : Oper) (ho : ops[i]? = some o) (hg : o.guard = none) (h : (execOp a.eval o).run P w = .ok .skip w') (hS : S w') (hK : wpPlanE P ops Q S t r (a.put o.dst undef) w') : wpPlanE P ops Q S t ((false, i) :: r) a w := by
  show wpOp P ops Q i _ a w
  unfold wpOp; simp only [ho, Region.wanted, hg, if_true]
  left; unfold Oper.wp; rw [h]; exact ⟨fun _ => hS, hK⟩
end BB
end
section
open Go Go.RowKit
namespace Go.Proofs.Ytlkdogaonjemhaa
open GA FF WW BB
set_option maxRecDepth 100000 in
set_option maxHeartbeats 8000000 in
/-- the reference's At -/
theorem rat_any (l : List OpG) (v : Value) (n x : Int) (w : World) (hv : OpsGAt w v l) (hm : MemG l) :
    Calls Try.prog 11 #[v, .int .i64 n, .int .i64 x] w fun e w' => e = .returned (.int .i64 (atA l n x)) ∧ w = w' := by
  have HV := Lib.hid hv
  have HM := Lib.hid hm
  obtain ⟨a0, cap, rfl, _⟩ := hv
  have hlm := hm.1
  clear hm
  go_enter Try.func11, Try.ntmps11
  go_wp2_with fail
  go_loopw [7, 8] (fun x' y wr => ∃ i : Nat, i ≤ l.length ∧ x' = .int .i64 (atA (l.take i) n x) ∧ y = .int .i64 (i : Int) ∧ w = wr) (fun _ y _ => l.length - (intOf y).toNat)
  case atStart => exact ⟨0, Nat.zero_le _, rfl, rfl, rfl⟩
  case round =>
    obtain ⟨i, hi, rfl, rfl, rfl⟩ := hrel
    have HII := Lib.hid hi
    have i0 : (0 : Int) ≤ (i : Int) := by omega
    clear hi
    by_cases hlt : i < l.length
    · have hlt' : (i : Int) < (l.length : Int) := by omega
      have HLT := Lib.hid hlt
      obtain ⟨lb, loff, rfl, _, hat⟩ := opsG_at HV.out i hlt
      obtain ⟨c0, c1⟩ := hat _ (Below.refl _ _)
      have HST := Lib.hid (atA_take hlt n x)
      obtain ⟨⟨f, u⟩, hO⟩ : ∃ o, l.getD i opG0 = o := ⟨_, rfl⟩
      rw [hO] at c0 c1 HST
      have c0 : w.cell? ⟨lb, loff + i * 2, none⟩ = some (.int .i64 f) := c0
      have c1 : w.cell? ⟨lb, loff + i * 2 + 1, none⟩ = some (.int .i64 u) := c1
      obtain ⟨A, hA⟩ : ∃ A, atA (l.take i) n x = A := ⟨_, rfl⟩
      rw [hA] at HST ⊢
      clear hlt hat hO hA
      have HREL := Lib.hid (show ∀ B, atA (l.take (i + 1)) n x = B → ∃ j : Nat, j ≤ l.length ∧ (Value.int .i64 B) = .int .i64 (atA (l.take j) n x) ∧ (Value.int .i64 ((i : Int) + 1)) = .int .i64 (j : Int) ∧ True from fun B hB => ⟨i + 1, HLT.out, by rw [hB], by go_num, trivial⟩)
      by_cases h1 : f = x
      · have e1 : (f == x) = true := by rw [beq_iff_eq]; exact h1
        by_cases h2 : 0 ≤ x
        · have e2 : decide (0 ≤ x) = true := decide_eq_true h2
          by_cases h3 : x < n
          · have e3 : decide (x < n) = true := decide_eq_true h3
            by_cases h4 : u ≤ 1000000
            · have e4 : decide (u ≤ 1000000) = true := decide_eq_true h4
              have HB := Lib.hid (show toldG n x A (f, u) = max A u from if_pos ⟨h1, h2, h3, h4⟩)
              clear h1 h2 h3 h4
              go_wp2_with fail
              go_roundw
              case rel => exact HREL.out _ (HST.out.trans HB.out)
              case measure => have := HLT.out; simp [intOf]; omega
            · have e4 : decide (u ≤ 1000000) = false := decide_eq_false h4
              have HB := Lib.hid (show toldG n x A (f, u) = A from if_neg fun h => h4 h.2.2.2)
              clear h1 h2 h3 h4
              go_wp2_with fail
              go_roundw
              case rel => exact HREL.out _ (HST.out.trans HB.out)
              case measure => have := HLT.out; simp [intOf]; omega
          · have e3 : decide (x < n) = false := decide_eq_false h3
            have HB := Lib.hid (show toldG n x A (f, u) = A from if_neg fun h => h3 h.2.2.1)
            clear h1 h2 h3
            go_wp2_with fail
            go_roundw
            case rel => exact HREL.out _ (HST.out.trans HB.out)
            case measure => have := HLT.out; simp [intOf]; omega
        · have e2 : decide (0 ≤ x) = false := decide_eq_false h2
          have HB := Lib.hid (show toldG n x A (f, u) = A from if_neg fun h => h2 h.2.1)
          clear h1 h2
          go_wp2_with fail
          go_roundw
          case rel => exact HREL.out _ (HST.out.trans HB.out)
          case measure => have := HLT.out; simp [intOf]; omega
      · have e1 : (f == x) = false := by rw [beq_eq_false_iff_ne]; exact h1
        have HB := Lib.hid (show toldG n x A (f, u) = A from if_neg fun h => h1 h.1)
        clear h1
        go_wp2_with fail
        go_roundw
        case rel => exact HREL.out _ (HST.out.trans HB.out)
        case measure => have := HLT.out; simp [intOf]; omega
    · obtain rfl : i = l.length := by have := HII.out; omega
      have hlt' : ¬ (l.length : Int) < (l.length : Int) := by omega
      have HT := Lib.hid (show l.take l.length = l from List.take_length)
      clear hlt
      go_wp2_with fail
      go_ret
      exact ⟨by first | rfl | (rw [HT.out]; rfl), rfl⟩
theorem rat_is (l : List OpG) (v : Value) (n x A : Int) (hA : atA l n x = A) (w : World) (hv : OpsGAt w v l) (hm : MemG l) :
    Calls Try.prog 11 #[v, .int .i64 n, .int .i64 x] w fun e w' => e = .returned (.int .i64 A) ∧ w = w' := hA ▸ rat_any l v n x w hv hm
set_option maxRecDepth 100000 in
set_option maxHeartbeats 8000000 in
/-- the reference's In -/
theorem rin_any (l : List OpG) (v : Value) (n : Nat) (x : Int) (w : World) (hv : OpsGAt w v l) (hm : MemG l) (hn : n ≤ 7) :
    Calls Try.prog 12 #[v, .int .i64 (n : Int), .int .i64 x] w fun e w' => e = .returned (.int .i64 (inG (tellG l n) x : Int)) ∧ w = w' := by
  have HV := Lib.hid hv
  have HM := Lib.hid hm
  have HN := Lib.hid hn
  obtain ⟨a0, cap, rfl, _⟩ := hv
  have nb : (n : Int) ≤ 7 := by omega
  clear hm hn
  go_enter Try.func12, Try.ntmps12
  go_wp2_with fail
  go_loopw [7, 8] (fun x' y wr => ∃ i : Nat, i ≤ n ∧ x' = .int .i64 (inG ((tellG l n).take i) x : Int) ∧ y = .int .i64 (i : Int) ∧ w = wr) (fun _ y _ => n - (intOf y).toNat)
  case atStart => exact ⟨0, Nat.zero_le _, rfl, rfl, rfl⟩
  case round =>
    obtain ⟨i, hi, rfl, rfl, rfl⟩ := hrel
    have HII := Lib.hid hi
    have i0 : (0 : Int) ≤ (i : Int) := by omega
    have ib : (i : Int) ≤ 7 := by omega
    clear hi
    by_cases hlt : i < n
    · have hlt' : (i : Int) < (n : Int) := by omega
      have HLT := Lib.hid hlt
      obtain ⟨A, hA⟩ : ∃ A, atA l n (i : Int) = A := ⟨_, rfl⟩
      have HA := Lib.hid hA
      have HK := Lib.hid (show inG ((tellG l n).take i) x ≤ i from Nat.le_trans List.countP_le_length (by rw [List.length_take]; omega))
      have HST := Lib.hid (show inG ((tellG l n).take (i + 1)) x = inG ((tellG l n).take i) x + if A = x then 1 else 0 by
        have hl : i < (tellG l n).length := by rw [tell_len]; exact hlt
        have hg : (tellG l n)[i] = A := by rw [← hA]; simp [tellG]
        unfold inG
        rw [List.take_add_one, List.getElem?_eq_getElem hl, List.countP_append, hg]
        simp [List.countP_cons])
      obtain ⟨K, hK⟩ : ∃ K, inG ((tellG l n).take i) x = K := ⟨_, rfl⟩
      rw [hK] at HST HK ⊢
      have k0 : (0 : Int) ≤ (K : Int) := by omega
      have kb : (K : Int) ≤ 7 := by have := HK.out; omega
      clear hlt hA hK
      go_wp2_with fail
      refine (rat_is l _ n (i : Int) A HA.out _ HV.out HM.out).mono ?_
      rintro e w2 ⟨rfl, rfl⟩
      by_cases h1 : A = x
      · have e1 : (A == x) = true := by rw [beq_iff_eq]; exact h1
        have HB := Lib.hid (show inG ((tellG l n).take (i + 1)) x = K + 1 by rw [HST.out, if_pos h1])
        clear h1
        go_wp2_with fail
        go_roundw
        case rel => exact ⟨i + 1, HLT.out, by rw [HB.out]; go_num, by go_num, trivial⟩
        case measure => have := HLT.out; simp [intOf]; omega
      · have e1 : (A == x) = false := by rw [beq_eq_false_iff_ne]; exact h1
        have HB := Lib.hid (show inG ((tellG l n).take (i + 1)) x = K by rw [HST.out, if_neg h1]; omega)
        clear h1
        go_wp2_with fail
        go_roundw
        case rel => exact ⟨i + 1, HLT.out, by rw [HB.out], by go_num, trivial⟩
        case measure => have := HLT.out; simp [intOf]; omega
    · obtain rfl : i = n := by have := HII.out; omega
      have hlt' : ¬ (i : Int) < (i : Int) := by omega
      have HT := Lib.hid (show (tellG l i).take i = tellG l i from List.take_of_length_le (by rw [tell_len]; omega))
      clear hlt
      go_wp2_with fail
      go_ret
      exact ⟨by first | rfl | (rw [HT.out]; rfl), rfl⟩
set_option maxRecDepth 100000 in
set_option maxHeartbeats 16000000 in
/-- the reference's Catch -/
theorem rcatch_any (l : List OpG) (v : Value) (n : Nat) (w : World) (hv : OpsGAt w v l) (hm : MemG l) (hn : n ≤ 7) :
    Calls Try.prog 16 #[v, .int .i64 (n : Int)] w fun e w' => e = .returned (.int .i64 (catchG (tellG l n))) ∧ w = w' := by
  have HV := Lib.hid hv
  have HM := Lib.hid hm
  have HN := Lib.hid hn
  obtain ⟨a0, cap, rfl, _⟩ := hv
  have nb : (n : Int) ≤ 7 := by omega
  obtain ⟨T, hT⟩ : ∃ T, tellG l n = T := ⟨_, rfl⟩
  have HTL := Lib.hid (show T.length = n by rw [← hT]; exact tell_len l n)
  have HTA := Lib.hid (show ∀ j, j < n → T[j]? = some (atA l n (j : Int)) by intro j hj; rw [← hT, tellG, List.getElem?_map, List.getElem?_range hj]; rfl)
  have HTB := Lib.hid (show ∀ j : Nat, 0 ≤ atA l n (j : Int) ∧ atA l n (j : Int) ≤ 1000000 from fun j => atA_bound _ _ _)
  rw [hT]
  obtain ⟨F, hF⟩ : ∃ F, faultsI (n : Int) = F := ⟨_, rfl⟩
  have HF := Lib.hid hF
  have HFB := Lib.hid (show 0 ≤ F ∧ F ≤ 7 by rw [← hF]; unfold faultsI; split <;> omega)
  have HCE := Lib.hid (show catchG T = T.foldl (bestG F T) 0 by unfold catchG; rw [HTL.out, hF])
  clear hm hn hT hF
  go_enter Try.func16, Try.ntmps16
  go_wp2_with fail
  go_loopw [5, 6] (fun x' y wr => ∃ i : Nat, i ≤ n ∧ (∃ B : Int, x' = .int .i64 B ∧ B = (T.take i).foldl (bestG F T) 0) ∧ y = .int .i64 (i : Int) ∧ w = wr) (fun _ y _ => n - (intOf y).toNat)
  case atStart => exact ⟨0, Nat.zero_le _, ⟨0, rfl, rfl⟩, rfl, rfl⟩
  case round =>
    obtain ⟨i, hi, ⟨B, rfl, hB⟩, rfl, rfl⟩ := hrel
    have HBB := Lib.hid hB
    have HII := Lib.hid hi
    have i0 : (0 : Int) ≤ (i : Int) := by omega
    have ib : (i : Int) ≤ 7 := by omega
    clear hi hB
    by_cases hlt : i < n
    · have hlt' : (i : Int) < (n : Int) := by omega
      have HLT := Lib.hid hlt
      have HVI := Lib.hid (HTA.out i hlt)
      obtain ⟨A, hA⟩ : ∃ A, atA l n (i : Int) = A := ⟨_, rfl⟩
      have HA := Lib.hid hA
      rw [hA] at HVI
      have HST := Lib.hid (show (T.take (i + 1)).foldl (bestG F T) 0 = bestG F T B A by rw [List.take_add_one, HVI.out, List.foldl_append, ← HBB.out]; rfl)
      clear hlt hA
      go_wp2_with fail
      refine (rat_is l _ n (i : Int) A HA.out _ HV.out HM.out).mono ?_
      rintro e w2 ⟨rfl, rfl⟩
      go_wp2_with fail
      go_loopw [8, 9] (fun x' y wr => ∃ j : Nat, j ≤ n ∧ x' = .int .i64 (upG (T.take j) A : Int) ∧ y = .int .i64 (j : Int) ∧ w = wr) (fun _ y _ => n - (intOf y).toNat)
      case atStart => exact ⟨0, Nat.zero_le _, rfl, rfl, rfl⟩
      case round =>
        obtain ⟨j, hj, rfl, rfl, rfl⟩ := hrel
        have HJJ := Lib.hid hj
        have j0 : (0 : Int) ≤ (j : Int) := by omega
        have jb : (j : Int) ≤ 7 := by omega
        have HK := Lib.hid (show upG (T.take j) A ≤ j from Nat.le_trans List.countP_le_length (by rw [List.length_take]; omega))
        clear hj
        by_cases hlj : j < n
        · have hlj' : (j : Int) < (n : Int) := by omega
          have HLJ := Lib.hid hlj
          have HVJ := Lib.hid (HTA.out j hlj)
          obtain ⟨D, hD⟩ : ∃ D, atA l n (j : Int) = D := ⟨_, rfl⟩
          have HD := Lib.hid hD
          rw [hD] at HVJ
          have HSJ := Lib.hid (show upG (T.take (j + 1)) A = upG (T.take j) A + if A ≤ D then 1 else 0 by
            unfold upG
            rw [List.take_add_one, HVJ.out, List.countP_append]
            simp [List.countP_cons])
          obtain ⟨K, hK⟩ : ∃ K, upG (T.take j) A = K := ⟨_, rfl⟩
          rw [hK] at HSJ HK ⊢
          have k0 : (0 : Int) ≤ (K : Int) := by omega
          have kb : (K : Int) ≤ 7 := by have := HK.out; omega
          clear hlj hD hK
          go_wp2_with fail
          refine (rat_is l _ n (j : Int) D HD.out _ HV.out HM.out).mono ?_
          rintro e w2 ⟨rfl, rfl⟩
          by_cases h1 : A ≤ D
          · have e1 : decide (A ≤ D) = true := decide_eq_true h1
            have HB := Lib.hid (show upG (T.take (j + 1)) A = K + 1 by rw [HSJ.out, if_pos h1])
            clear h1
            go_wp2_with fail
            go_roundw
            case rel => exact ⟨j + 1, HLJ.out, by rw [HB.out]; go_num, by go_num, trivial⟩
            case measure => have := HLJ.out; simp [intOf]; omega
          · have e1 : decide (A ≤ D) = false := decide_eq_false h1
            have HB := Lib.hid (show upG (T.take (j + 1)) A = K by rw [HSJ.out, if_neg h1]; omega)
            clear h1
            go_wp2_with fail
            go_roundw
            case rel => exact ⟨j + 1, HLJ.out, by rw [HB.out], by go_num, trivial⟩
            case measure => have := HLJ.out; simp [intOf]; omega
        · obtain rfl : j = n := by have := HJJ.out; omega
          have hlj' : ¬ (j : Int) < (j : Int) := by omega
          have HTT := Lib.hid (show T.take j = T from List.take_of_length_le (by rw [HTL.out]; omega))
          have HBE := Lib.hid (show bestG F T B A = if F < (upG (T.take j) A : Int) then max B A else B by rw [HTT.out]; rfl)
          obtain ⟨K, hK⟩ : ∃ K, upG (T.take j) A = K := ⟨_, rfl⟩
          rw [hK] at HBE ⊢
          clear hlj hK
          go_wp2_with fail
          refine (rfaults_is (j : Int) F HF.out (by omega) _).mono ?_
          rintro e w2 ⟨rfl, rfl⟩
          by_cases h1 : F < (K : Int)
          · have e1 : decide (F < (K : Int)) = true := decide_eq_true h1
            have HB := Lib.hid (show bestG F T B A = max B A by rw [HBE.out, if_pos h1])
            clear h1
            go_wp2_with fail
            go_roundw
            case rel => exact ⟨i + 1, HLT.out, ⟨_, rfl, (HST.out.trans HB.out).symm⟩, by go_num, trivial⟩
            case measure => have := HLT.out; simp [intOf]; omega
          · have e1 : decide (F < (K : Int)) = false := decide_eq_false h1
            have HB := Lib.hid (show bestG F T B A = B by rw [HBE.out, if_neg h1])
            clear h1
            go_wp2_with fail
            go_roundw
            case rel => exact ⟨i + 1, HLT.out, ⟨_, rfl, (HST.out.trans HB.out).symm⟩, by go_num, trivial⟩
            case measure => have := HLT.out; simp [intOf]; omega
    · obtain rfl : i = n := by have := HII.out; omega
      have hlt' : ¬ (i : Int) < (i : Int) := by omega
      have HBC := Lib.hid (show B = catchG T by rw [HCE.out, HBB.out, List.take_of_length_le (by rw [HTL.out]; omega)])
      clear hlt
      go_wp2_with fail
      go_ret
      exact ⟨by rw [← HBC.out]; rfl, rfl⟩
set_option maxRecDepth 100000 in
set_option maxHeartbeats 8000000 in
theorem awake16_any (C : Code16) (w : World) : Calls Try.prog 6 #[] w fun e w' => e = .returned (.bool true) ∧ Below w.heap.size w w' := by
  have I0 := Lib.hid (inv_newG 1)
  have I1 := Lib.hid (inv_put (inv_newG 1) 0 5)
  have e1 : okG (newG 1) 0 5 = true := by decide +kernel
  have e2 : readyG (putG (newG 1) 0 5) 5 = true := by decide +kernel
  have e3 : catchG (putG (newG 1) 0 5) = 5 := by decide +kernel
  obtain ⟨t1, h1⟩ : ∃ t, putG (newG 1) 0 5 = t := ⟨_, rfl⟩
  have T1 := Lib.hid h1
  rw [h1] at I1 e2 e3
  have E1 := Lib.hid e1
  have E2 := Lib.hid e2
  have E3 := Lib.hid e3
  clear h1 e1 e2 e3
  go_enter Try.func6, Try.ntmps6
  go_wp2_with fail
  refine (ga_new C w w 1 (Below.refl _ _) (by omega)).mono ?_
  rintro e w1 ⟨g, rfl, h1, _⟩
  have H1 := Lib.hid h1
  clear h1
  go_wp2_with fail
  refine (ga_put C 0 5 H1.out I0.out (by omega)).mono ?_
  rw [T1.out, E1.out]
  rintro e w2 ⟨rfl, h2⟩
  have H2 := Lib.hid h2
  clear h2
  go_wp2_with fail
  refine (ga_ready C 5 H2.out I1.out (by omega)).mono ?_
  rw [E2.out]
  rintro e w3 ⟨rfl, hb3⟩
  have H3 := Lib.hid (H2.out.on hb3)
  clear hb3
  go_wp2_with fail
  refine (ga_catch C H3.out I1.out).mono ?_
  rw [E3.out]
  rintro e w4 ⟨rfl, hb4⟩
  have H4 := Lib.hid (H3.out.on hb4)
  clear hb4
  go_wp2_with fail
  go_ret
  exact ⟨rfl, H4.out.below⟩
end Go.Proofs.Ytlkdogaonjemhaa
end
section
open Go Go.RowKit
namespace GA
open WW BB
theorem run_op_slice16 {P : Program} {w : World} {a : Act} {o : Oper} {t e sz n cap hi : Nat} {a0 : Option Addr} {z' : Int} (x z : Operand) (ho : o.op = .slice t x none (some z) none)
    (hx : a.eval x = .slice a0 n cap) (hz : a.eval z = .int .i64 z') (he : z' = (hi : Int)) (hU : (underlying t).run P w = .ok (.slice e) w) (hS : (Go.sizeOf e).run P w = .ok sz w) (h1 : hi ≤ cap) : (execOp a.eval o).run P w = .ok (.value (.slice a0 hi cap)) w := by
  subst he
  have := run_slice_hi11 (P := P) (a := a0) (n := n) hU hS h1
  unfold execOp
  simp only [ho, Option.map_some, Option.map_none, hx, hz, Sem.run_bind, this, Result.andThen_ok, Sem.run_pure]
theorem memG_take {l : List OpG} (h : MemG l) (i : Nat) : MemG (l.take i) := ⟨by have := h.1; rw [List.length_take]; omega, fun o ho => h.2 o (List.mem_of_mem_take ho)⟩
end GA
namespace Go.Proofs.Ytlkdogaonjemhaa
open GA RR FF WW BB
theorem under_og (w : World) : (underlying 22).run Try.prog w = .ok (.slice 28) w := by kernel_rfl
theorem size_og (w : World) : (Go.sizeOf 28).run Try.prog w = .ok 2 w := by kernel_rfl
set_option maxRecDepth 100000 in
set_option maxHeartbeats 32000000 in
theorem lawP16 (C : Code16) (n : Int) (l : List OpG) (v : Value) (q : Int) (w : World) (hn : -9223372036854775808 ≤ n ∧ n ≤ 9223372036854775807) (hv : OpsGAt w v l) (hm : MemG l) (hq : -9223372036854775808 ≤ q ∧ q ≤ 9223372036854775807) :
    Calls Try.prog 4 #[.int .i64 n, v, .int .i64 q] w fun e w' => e = .returned (.bool true) ∧ Below w.heap.size w w' := by
  have HV := Lib.hid hv
  have HM := Lib.hid hm
  have HN := Lib.hid hn
  have HQ := Lib.hid hq
  obtain ⟨a0, cap, rfl, hcap, _⟩ := hv
  have HCAP := Lib.hid hcap
  have hlm := hm.1
  clear hm hn hq hcap
  go_enter Try.func4, Try.ntmps4
  go_wp2_with fail
  refine (awake16_any C w).mono ?_
  rintro e w1 ⟨rfl, hb1⟩
  have B1 := Lib.hid hb1
  clear hb1
  by_cases h60 : (60 : Int) < (l.length : Int)
  · have t1 : decide ((60 : Int) < (l.length : Int)) = true := decide_eq_true h60
    clear h60
    go_wp2_with fail
    refine (awake16_any C w1).mono ?_
    rintro e wz ⟨rfl, hbz⟩
    have BZ := Lib.hid (B1.out.trans (hbz.mono B1.out.size))
    go_wp2_with fail
    go_ret
    exact ⟨rfl, BZ.out⟩
  have HL := Lib.hid (show l.length ≤ 60 by omega)
  have t1 : decide ((60 : Int) < (l.length : Int)) = false := decide_eq_false h60
  clear h60
  go_wp2_with fail
  clear t1
  refine (ga_new C w w1 n B1.out HN.out).mono ?_
  rintro e w2 ⟨g, rfl, h2, _⟩
  obtain ⟨k, hk⟩ : ∃ k, clampN n = k := ⟨_, rfl⟩
  have HK := Lib.hid (show 1 ≤ k ∧ k ≤ 7 by rw [← hk]; exact clampN_le n)
  have k1 : (1 : Int) ≤ (k : Int) := by have := HK.out; omega
  have k7 : (k : Int) ≤ 7 := by have := HK.out; omega
  have HKE := Lib.hid (show min (max n 1) 7 = (k : Int) by rw [← hk, clampN_is])
  have H2 := Lib.hid (show GaX C w g (tellG (l.take 0) k) w2 by rw [List.take_zero, ← hk, tell_nil]; exact h2)
  clear h2 hk
  have hk2 := HKE.out
  go_wp2_with fail
  try rw [HKE.out]
  clear hk2
  go_loopw [9] (fun x wr => ∃ i : Nat, i ≤ l.length ∧ x = .int .i64 (i : Int) ∧ GaX C w g (tellG (l.take i) k) wr) (fun x _ => l.length - (intOf x).toNat)
  case atStart => exact ⟨0, Nat.zero_le _, rfl, H2.out⟩
  case round =>
    obtain ⟨i, hi, rfl, hst⟩ := hrel
    have HST := Lib.hid hst
    have HII := Lib.hid hi
    have i0 : (0 : Int) ≤ (i : Int) := by omega
    have ib : (i : Int) ≤ 60 := by have := HL.out; omega
    clear hst hi
    by_cases hlt : i < l.length
    · have hlt' : (i : Int) < (l.length : Int) := by omega
      have HLT := Lib.hid hlt
      have HT0 := Lib.hid (opsG_take HV.out i (Nat.le_of_lt hlt))
      have HT1 := Lib.hid (opsG_take HV.out (i + 1) hlt)
      have HPT := Lib.hid (put_tell (n := k) hlt)
      have HOK := Lib.hid (ok_tell (n := k) hlt)
      obtain ⟨lb, loff, rfl, _, hat⟩ := opsG_at HV.out i hlt
      have HMO := Lib.hid (memG_at HM.out hlt)
      obtain ⟨⟨x, u⟩, hO⟩ : ∃ o, l.getD i opG0 = o := ⟨_, rfl⟩
      rw [hO] at hat HMO HPT HOK
      have HAT := Lib.hid (show ∀ wx, Below w.heap.size w wx → wx.cell? ⟨lb, loff + i * 2, none⟩ = some (.int .i64 x) ∧ wx.cell? ⟨lb, loff + i * 2 + 1, none⟩ = some (.int .i64 u) from hat)
      obtain ⟨A, hA⟩ : ∃ A, atA (l.take i) k x = A := ⟨_, rfl⟩
      obtain ⟨B, hB⟩ : ∃ B, atA (l.take (i + 1)) k x = B := ⟨_, rfl⟩
      have HA := Lib.hid hA
      have HB := Lib.hid hB
      have HAB := Lib.hid (show atG (tellG (l.take (i + 1)) k) x = B by rw [at_tell, hB])
      have HOK' := Lib.hid (show okG (tellG (l.take i) k) x u = decide (A < B) by rw [← hA, ← hB]; exact HOK.out)
      obtain ⟨D, hD⟩ : ∃ D, decide (A < B) = D := ⟨_, rfl⟩
      rw [hD] at HOK'
      have HDD := Lib.hid hD
      have HI0 := Lib.hid (inv_tell (l.take i) HK.out)
      have HI1 := Lib.hid (inv_tell (l.take (i + 1)) HK.out)
      have HPU := Lib.hid (show ∀ wx, GaX C w g (tellG (l.take i) k) wx → Calls Try.prog 10 #[.pointer (some ⟨g, 0, none⟩), .int .i64 x, .int .i64 u] wx fun e w' => e = .returned (.bool D) ∧ GaX C w g (tellG (l.take (i + 1)) k) w' from fun wx h => by
        have h' := ga_put C x u h HI0.out HMO.out
        rw [HOK'.out, show putG (tellG (l.take i) k) x u = tellG (l.take (i + 1)) k from HPT.out] at h'
        exact h')
      have HAC := Lib.hid (show ∀ wx, GaX C w g (tellG (l.take (i + 1)) k) wx → Calls Try.prog 8 #[.pointer (some ⟨g, 0, none⟩), .int .i64 x] wx fun e w' => e = .returned (.int .i64 B) ∧ GaX C w g (tellG (l.take (i + 1)) k) w' from fun wx h => (ga_at C x h HI1.out HMO.out.1).mono fun e w' h2 => ⟨by rw [← HAB.out]; exact h2.1, h.on h2.2⟩)
      clear hlt hat hO hA hB hD HOK HPT HOK'
      go_wp2_with fail
      refine plan_abs (fun wx => Below w.heap.size w wx) [(true, 0), (true, 1), (true, 2), (true, 3), (true, 4), (true, 5), (true, 6), (true, 7), (true, 8), (false, 9), (true, 10)] (by kernel_rfl) (by kernel_rfl) (fun _ _ d _ _ h => by cases d <;> exact h) fun w5 hs5 => ⟨HST.out.below.trans ((hs5.below _).mono HST.out.below.size), ?_⟩
      have H5 := Lib.hid (HST.out.on (hs5.below _))
      clear hs5
      iterate 2 (refine pl_run _ ?_ rfl rfl ?_ ?_; rotate_left; (focus (intro w' hS; go_simp; exact rfl)); simp only [Act.put, List.setIfInBounds_toArray, List.set_cons_zero, List.set_cons_succ, List.getElem_toArray, List.getElem_cons_zero, List.getElem_cons_succ])
      refine pl_run _ (.slice (some ⟨lb, loff, none⟩) i cap) rfl rfl (fun w' hS => run_op_slice16 (hi := i) (z' := (i : Int)) (.tmp 32) (.tmp 33) rfl (by rfl) (by rfl) rfl (under_og _) (size_og _) (by have := HLT.out; have := HCAP.out; omega)) ?_
      simp only [Act.put, List.setIfInBounds_toArray, List.set_cons_zero, List.set_cons_succ, List.getElem_toArray, List.getElem_cons_zero, List.getElem_cons_succ]
      iterate 6 (refine pl_run _ ?_ rfl rfl ?_ ?_; rotate_left; (focus (intro w' hS; obtain ⟨c0, c1⟩ := HAT.out w' hS; go_simp; exact rfl)); simp only [Act.put, List.setIfInBounds_toArray, List.set_cons_zero, List.set_cons_succ, List.getElem_toArray, List.getElem_cons_zero, List.getElem_cons_succ])
      refine pl_call1 (R := fun w' => w5 = w') _ rfl rfl (by go_simp) (rat_is (l.take i) _ k x A HA.out w5 (opsG_on HT0.out H5.out.below) (memG_take HM.out i)) (fun w' h => h ▸ H5.out.below) fun w6 h6 => ?_
      subst h6
      simp only [Act.put, List.setIfInBounds_toArray, List.set_cons_zero, List.set_cons_succ, List.getElem_toArray, List.getElem_cons_zero, List.getElem_cons_succ]
      iterate 1 (refine pl_run _ ?_ rfl rfl ?_ ?_; rotate_left; (focus (intro w' hS; go_simp; exact rfl)); simp only [Act.put, List.setIfInBounds_toArray, List.set_cons_zero, List.set_cons_succ, List.getElem_toArray, List.getElem_cons_zero, List.getElem_cons_succ])
      refine pl_end ?_
      go_wp2_with fail
      refine plan_abs (fun wx => Below w.heap.size w wx) [(true, 0), (true, 1), (true, 2), (true, 3), (true, 4), (true, 5), (true, 6), (true, 7), (true, 8), (true, 9), (false, 10), (true, 11)] (by kernel_rfl) (by kernel_rfl) (fun _ _ d _ _ h => by cases d <;> exact h) fun w7 hs7 => ⟨H5.out.below.trans ((hs7.below _).mono H5.out.below.size), ?_⟩
      have H7 := Lib.hid (H5.out.on (hs7.below _))
      clear hs7
      iterate 3 (refine pl_run _ ?_ rfl rfl ?_ ?_; rotate_left; (focus (intro w' hS; go_simp; exact rfl)); simp only [Act.put, List.setIfInBounds_toArray, List.set_cons_zero, List.set_cons_succ, List.getElem_toArray, List.getElem_cons_zero, List.getElem_cons_succ])
      refine pl_run _ (.slice (some ⟨lb, loff, none⟩) (i + 1) cap) rfl rfl (fun w' hS => run_op_slice16 (hi := i + 1) (z' := IntKind.i64.wrap ((i : Int) + 1)) (.tmp 42) (.tmp 44) rfl (by rfl) (by rfl) (by rw [IntKind.wrap_i64]; omega) (under_og _) (size_og _) (by have := HLT.out; have := HCAP.out; omega)) ?_
      simp only [Act.put, List.setIfInBounds_toArray, List.set_cons_zero, List.set_cons_succ, List.getElem_toArray, List.getElem_cons_zero, List.getElem_cons_succ]
      iterate 6 (refine pl_run _ ?_ rfl rfl ?_ ?_; rotate_left; (focus (intro w' hS; obtain ⟨c0, c1⟩ := HAT.out w' hS; go_simp; exact rfl)); simp only [Act.put, List.setIfInBounds_toArray, List.set_cons_zero, List.set_cons_succ, List.getElem_toArray, List.getElem_cons_zero, List.getElem_cons_succ])
      refine pl_call1 (R := fun w' => w7 = w') _ rfl rfl (by go_simp) (rat_is (l.take (i + 1)) _ k x B HB.out w7 (opsG_on HT1.out H7.out.below) (memG_take HM.out (i + 1))) (fun w' h => h ▸ H7.out.below) fun w8 h8 => ?_
      subst h8
      simp only [Act.put, List.setIfInBounds_toArray, List.set_cons_zero, List.set_cons_succ, List.getElem_toArray, List.getElem_cons_zero, List.getElem_cons_succ]
      iterate 1 (refine pl_run _ ?_ rfl rfl ?_ ?_; rotate_left; (focus (intro w' hS; go_simp; exact rfl)); simp only [Act.put, List.setIfInBounds_toArray, List.set_cons_zero, List.set_cons_succ, List.getElem_toArray, List.getElem_cons_zero, List.getElem_cons_succ])
      refine pl_end ?_
      go_wp2_with fail
      have hdd := HDD.out
      have s1 : (D != D) = false := by simp
      have s2 : (B != B) = false := by simp
      refine plan_abs (fun wx => Below w.heap.size w wx) [(true, 0), (true, 1), (true, 2), (true, 3), (true, 4), (true, 5), (true, 6), (true, 7), (true, 8), (true, 9), (true, 10), (true, 12), (true, 13), (true, 14), (false, 11), (true, 15), (true, 16), (true, 17), (true, 18), (true, 19), (true, 20), (true, 21), (true, 22), (true, 24), (false, 23), (true, 25), (true, 26)] (by kernel_rfl) (by kernel_rfl) (fun _ _ d _ _ h => by cases d <;> exact h) fun w9 hs9 => ⟨H7.out.below.trans ((hs9.below _).mono H7.out.below.size), ?_⟩
      have H9 := Lib.hid (H7.out.on (hs9.below _))
      clear hs9
      iterate 14 (refine pl_run _ ?_ rfl rfl ?_ ?_; rotate_left; (focus (intro w' hS; obtain ⟨c0, c1⟩ := HAT.out w' hS; go_simp; exact rfl)); simp only [Act.put, List.setIfInBounds_toArray, List.set_cons_zero, List.set_cons_succ, List.getElem_toArray, List.getElem_cons_zero, List.getElem_cons_succ])
      refine pl_call1 (R := fun w' => GaX C w g (tellG (l.take (i + 1)) k) w') _ rfl rfl (by go_simp) (HPU.out w9 H9.out) (fun w' h => h.below) fun w10 h10 => ?_
      have H10 := Lib.hid h10
      clear h10
      simp only [Act.put, List.setIfInBounds_toArray, List.set_cons_zero, List.set_cons_succ, List.getElem_toArray, List.getElem_cons_zero, List.getElem_cons_succ]
      iterate 9 (refine pl_run _ ?_ rfl rfl ?_ ?_; rotate_left; (focus (intro w' hS; obtain ⟨c0, c1⟩ := HAT.out w' hS; go_simp; exact rfl)); simp only [Act.put, List.setIfInBounds_toArray, List.set_cons_zero, List.set_cons_succ, List.getElem_toArray, List.getElem_cons_zero, List.getElem_cons_succ])
      refine pl_call1 (R := fun w' => GaX C w g (tellG (l.take (i + 1)) k) w') _ rfl rfl (by go_simp) (HAC.out w10 H10.out) (fun w' h => h.below) fun w11 h11 => ?_
      have H11 := Lib.hid h11
      clear h11
      simp only [Act.put, List.setIfInBounds_toArray, List.set_cons_zero, List.set_cons_succ, List.getElem_toArray, List.getElem_cons_zero, List.getElem_cons_succ]
      iterate 2 (refine pl_run _ ?_ rfl rfl ?_ ?_; rotate_left; (focus (intro w' hS; go_simp; exact rfl)); simp only [Act.put, List.setIfInBounds_toArray, List.set_cons_zero, List.set_cons_succ, List.getElem_toArray, List.getElem_cons_zero, List.getElem_cons_succ])
      refine pl_end ?_
      go_wp2_with fail
      go_roundw
      case rel => exact ⟨i + 1, HLT.out, by go_num, H11.out⟩
      case measure => have := HLT.out; simp [intOf]; omega
    · obtain rfl : i = l.length := by have := HII.out; omega
      have hlt' : ¬ (l.length : Int) < (l.length : Int) := by omega
      have HT := Lib.hid (show l.take l.length = l from List.take_length)
      rw [HT.out] at HST
      have HI1 := Lib.hid (inv_tell l HK.out)
      have HTL := Lib.hid (show atG (tellG l k) (-1) = 0 ∧ atG (tellG l k) (k : Int) = 0 from ⟨by rw [at_tell]; exact atA_out (by omega) l, by rw [at_tell]; exact atA_out (by omega) l⟩)
      obtain ⟨F, hF⟩ : ∃ F, faultsI (k : Int) = F := ⟨_, rfl⟩
      have HF := Lib.hid hF
      have HFB := Lib.hid (show 0 ≤ F ∧ 0 ≤ (k : Int) - F by rw [← hF]; unfold faultsI; rw [if_neg (by omega)]; omega)
      obtain ⟨X, hX⟩ : ∃ X, inG (tellG l k) q = X := ⟨_, rfl⟩
      have HX := Lib.hid hX
      obtain ⟨R, hR⟩ : ∃ R, decide ((k : Int) - F ≤ (X : Int)) = R := ⟨_, rfl⟩
      have HRR := Lib.hid (show readyG (tellG l k) q = R by rw [← hR]; unfold readyG readyG.quorumG; rw [tell_len, hF, hX])
      obtain ⟨K, hK⟩ : ∃ K, catchG (tellG l k) = K := ⟨_, rfl⟩
      have HKK := Lib.hid hK
      have HRE := Lib.hid hR
      clear hlt hF hX hK hR
      have f1 := HFB.out.1
      have f2 := HFB.out.2
      go_wp2_with fail
      refine (rin_any l _ k q wr (opsG_on HV.out HST.out.below) HM.out HK.out.2).mono ?_
      rintro e w3 ⟨rfl, rfl⟩
      rw [HX.out]
      have s1 : ((X : Int) == (X : Int)) = true := by simp
      have s2 : (R == R) = true := by simp
      have s3 : (K == K) = true := by simp
      have hre := HRE.out
      go_wp2_with fail
      refine (ga_in C q HST.out HI1.out HQ.out).mono ?_
      rintro e w4 ⟨rfl, hb4⟩
      have H4 := Lib.hid (HST.out.on hb4)
      rw [HX.out]
      clear hb4
      go_wp2_with fail
      refine (ga_ready C q H4.out HI1.out HQ.out).mono ?_
      rintro e w5 ⟨rfl, hb5⟩
      have H5 := Lib.hid (H4.out.on hb5)
      rw [HRR.out]
      clear hb5
      go_wp2_with fail
      refine (rfaults_is (k : Int) F HF.out (by omega) w5).mono ?_
      rintro e w6 ⟨rfl, rfl⟩
      go_wp2_with fail
      refine (ga_catch C H5.out HI1.out).mono ?_
      rintro e w7 ⟨rfl, hb7⟩
      have H7 := Lib.hid (H5.out.on hb7)
      rw [HKK.out]
      clear hb7
      go_wp2_with fail
      refine (rcatch_any l _ k w7 (opsG_on HV.out H7.out.below) HM.out HK.out.2).mono ?_
      rintro e w8 ⟨rfl, rfl⟩
      rw [HKK.out]
      go_wp2_with fail
      refine (ga_at C (-1) H7.out HI1.out (by omega)).mono ?_
      rintro e w9 ⟨rfl, hb9⟩
      have H9 := Lib.hid (H7.out.on hb9)
      rw [HTL.out.1]
      clear hb9
      go_wp2_with fail
      refine (ga_at C (k : Int) H9.out HI1.out (by omega)).mono ?_
      rintro e w10 ⟨rfl, hb10⟩
      have H10 := Lib.hid (H9.out.on hb10)
      rw [HTL.out.2]
      clear hb10
      go_wp2_with fail
      go_ret
      exact ⟨rfl, H10.out.below⟩
end Go.Proofs.Ytlkdogaonjemhaa
end
section
open Go Go.RowKit
namespace Go.Proofs.Ytlkdogaonjemhaa
open GA RR FF WW BB
set_option maxRecDepth 100000 in
set_option maxHeartbeats 16000000 in
theorem lawU16 (C : Code16) (a : Nat) (l : List OpG) (v : Value) (w : World) (ha : a < 256) (hv : OpsGAt w v l) (hm : MemG l) :
    Calls Try.prog 3 #[.int .u8 (a : Int), v] w fun e w' => e = .returned (.bool true) ∧ Below w.heap.size w w' := by
  have HV := Lib.hid hv
  have HM := Lib.hid hm
  have HA := Lib.hid ha
  obtain ⟨a0, cap, rfl, _⟩ := hv
  have hlm := hm.1
  clear hm ha
  go_enter Try.func3, Try.ntmps3
  go_wp2_with fail
  refine (awake16_any C w).mono ?_
  rintro e w1 ⟨rfl, hb1⟩
  have B1 := Lib.hid hb1
  clear hb1
  by_cases h60 : (60 : Int) < (l.length : Int)
  · have t1 : decide ((60 : Int) < (l.length : Int)) = true := decide_eq_true h60
    clear h60
    go_wp2_with fail
    refine (awake16_any C w1).mono ?_
    rintro e wz ⟨rfl, hbz⟩
    have BZ := Lib.hid (B1.out.trans (hbz.mono B1.out.size))
    go_wp2_with fail
    go_ret
    exact ⟨rfl, BZ.out⟩
  have HL := Lib.hid (show l.length ≤ 60 by omega)
  have t1 : decide ((60 : Int) < (l.length : Int)) = false := decide_eq_false h60
  obtain ⟨n, hn⟩ : ∃ n : Int, (1 + (a : Int) % 7) = n := ⟨_, rfl⟩
  have HN := Lib.hid (show 1 ≤ n ∧ n ≤ 7 by omega)
  have a0' : (0 : Int) ≤ (a : Int) := by omega
  have a1' : (a : Int) ≤ 255 := by have := HA.out; omega
  clear h60
  go_wp2_with fail
  clear t1 a0' a1' hn
  refine (ga_new C w w1 n B1.out (by have := HN.out; omega)).mono ?_
  rintro e w2 ⟨g, rfl, h2, _⟩
  have H2 := Lib.hid h2
  clear h2
  go_wp2_with fail
  go_loopw [6] (fun x wr => ∃ (i : Nat) (t : List Int), i ≤ l.length ∧ x = .int .i64 (i : Int) ∧ GaX C w g t wr ∧ InvG t) (fun x _ => l.length - (intOf x).toNat)
  case atStart => exact ⟨0, _, Nat.zero_le _, rfl, H2.out, inv_newG n⟩
  case round =>
    obtain ⟨i, t, hi, rfl, hst, hit⟩ := hrel
    have HST := Lib.hid hst
    have HIT := Lib.hid hit
    have HII := Lib.hid hi
    have i0 : (0 : Int) ≤ (i : Int) := by omega
    have ib : (i : Int) ≤ 60 := by have := HL.out; omega
    clear hst hi hit
    by_cases hlt : i < l.length
    · have hlt' : (i : Int) < (l.length : Int) := by omega
      have HLT := Lib.hid hlt
      obtain ⟨lb, loff, rfl, _, hat⟩ := opsG_at HV.out i hlt
      have HMO := Lib.hid (memG_at HM.out hlt)
      obtain ⟨⟨x, u⟩, hO⟩ : ∃ o, l.getD i opG0 = o := ⟨_, rfl⟩
      rw [hO] at hat HMO
      have HAT := Lib.hid (show ∀ wx, Below w.heap.size w wx → wx.cell? ⟨lb, loff + i * 2, none⟩ = some (.int .i64 x) ∧ wx.cell? ⟨lb, loff + i * 2 + 1, none⟩ = some (.int .i64 u) from hat)
      obtain ⟨c0, c1⟩ := HAT.out wr HST.out.below
      have HR1 := Lib.hid (at_rises t x u x)
      have HR2 := Lib.hid (catch_rises t x u)
      have HIP := Lib.hid (inv_put HIT.out x u)
      obtain ⟨t', ht'⟩ : ∃ t', putG t x u = t' := ⟨_, rfl⟩
      have HT' := Lib.hid ht'
      rw [ht'] at HR1 HR2 HIP
      clear hlt hat hO ht'
      go_wp2_with fail
      clear c0 c1
      refine (ga_at C x HST.out HIT.out HMO.out.1).mono ?_
      rintro e w3 ⟨rfl, hb3⟩
      have H3 := Lib.hid (HST.out.on hb3)
      obtain ⟨A, hA⟩ : ∃ A, atG t x = A := ⟨_, rfl⟩
      rw [hA] at HR1 ⊢
      clear hb3 hA
      go_wp2_with fail
      refine (ga_catch C H3.out HIT.out).mono ?_
      rintro e w4 ⟨rfl, hb4⟩
      have H4 := Lib.hid (H3.out.on hb4)
      obtain ⟨K, hK⟩ : ∃ K, catchG t = K := ⟨_, rfl⟩
      rw [hK] at HR2 ⊢
      clear hb4 hK
      go_wp2_with fail
      refine plan_abs (fun wx => Below w.heap.size w wx) [(true, 0), (true, 1), (true, 2), (true, 3), (true, 4), (true, 5), (true, 6), (true, 7), (true, 8), (true, 9), (true, 10), (false, 11)] (by kernel_rfl) (by kernel_rfl) (fun _ _ d _ _ h => by cases d <;> exact h) fun w5 hs5 => ⟨H4.out.below.trans ((hs5.below _).mono H4.out.below.size), ?_⟩
      have H5 := Lib.hid (H4.out.on (hs5.below _))
      clear hs5
      iterate 11 (refine pl_run _ ?_ rfl rfl ?_ ?_; rotate_left; (focus (intro w' hS; obtain ⟨c0, c1⟩ := HAT.out w' hS; go_simp; exact rfl)); simp only [Act.put, List.setIfInBounds_toArray, List.set_cons_zero, List.set_cons_succ, List.getElem_toArray, List.getElem_cons_zero, List.getElem_cons_succ])
      refine pl_call1 (R := fun w' => GaX C w g t' w') _ rfl rfl (by go_simp) (HT'.out ▸ ga_put C x u H5.out HIT.out HMO.out) (fun w' h => h.below) fun w6 h6 => ?_
      have H6 := Lib.hid h6
      clear h6
      simp only [Act.put, List.setIfInBounds_toArray, List.set_cons_zero, List.set_cons_succ, List.getElem_toArray, List.getElem_cons_zero, List.getElem_cons_succ]
      refine pl_end ?_
      obtain ⟨c0, c1⟩ := HAT.out w6 H6.out.below
      go_wp2_with fail
      clear c0 c1
      refine (ga_at C x H6.out HIP.out HMO.out.1).mono ?_
      rintro e w7 ⟨rfl, hb7⟩
      have H7 := Lib.hid (H6.out.on hb7)
      obtain ⟨A', hA'⟩ : ∃ A', atG t' x = A' := ⟨_, rfl⟩
      rw [hA'] at HR1 ⊢
      have d1 : decide (A' < A) = false := decide_eq_false (by have := HR1.out; omega)
      clear hb7 hA'
      go_wp2_with fail
      refine (ga_catch C H7.out HIP.out).mono ?_
      rintro e w8 ⟨rfl, hb8⟩
      have H8 := Lib.hid (H7.out.on hb8)
      obtain ⟨K', hK'⟩ : ∃ K', catchG t' = K' := ⟨_, rfl⟩
      rw [hK'] at HR2 ⊢
      have d2 : decide (K' < K) = false := decide_eq_false (by have := HR2.out; omega)
      clear hb8 hK'
      go_wp2_with fail
      go_roundw
      case rel => exact ⟨i + 1, t', HLT.out, by go_num, H8.out, HIP.out⟩
      case measure => have := HLT.out; simp [intOf]; omega
    · obtain rfl : i = l.length := by have := HII.out; omega
      have hlt' : ¬ (l.length : Int) < (l.length : Int) := by omega
      clear hlt
      go_wp2_with fail
      go_ret
      exact ⟨rfl, HST.out.below⟩
set_option maxRecDepth 100000 in
set_option maxHeartbeats 32000000 in
theorem lawY16 (C : Code16) (a : Nat) (l : List OpG) (v : Value) (p q : Int) (w : World) (ha : a < 256) (hv : OpsGAt w v l) (hm : MemG l) (hp : -9223372036854775808 ≤ p ∧ p ≤ 9223372036854775807) (hq : -9223372036854775808 ≤ q ∧ q ≤ 9223372036854775807) :
    Calls Try.prog 5 #[.int .u8 (a : Int), v, .agg #[.int .i64 p, .int .i64 q]] w fun e w' => e = .returned (.bool true) ∧ Below w.heap.size w w' := by
  have HV := Lib.hid hv
  have HM := Lib.hid hm
  have HA := Lib.hid ha
  have HP := Lib.hid hp
  have HQ := Lib.hid hq
  obtain ⟨a0, cap, rfl, _⟩ := hv
  have hlm := hm.1
  have B0 := Lib.hid ((Below.refl w.heap.size w).alloc (Nat.le_refl _) (.cells #[.int .i64 p, .int .i64 q] 36))
  have L0 := Lib.hid (show Blk (w.alloc (.cells #[.int .i64 p, .int .i64 q] 36)) w.heap.size 2 (rowL [.int .i64 p, .int .i64 q]) from Blk.new' rfl (row2_ _ _))
  clear hm ha hp hq
  go_enter Try.func5, Try.ntmps5
  go_upto_region 1 with fail
  obtain ⟨y0, hy0⟩ : ∃ y0, w.heap.size = y0 := ⟨_, rfl⟩
  obtain ⟨w0, hw0⟩ : ∃ w0, w.alloc (.cells #[.int .i64 p, .int .i64 q] 36) = w0 := ⟨_, rfl⟩
  rw [hw0] at B0 L0 ⊢
  rw [hy0] at L0 ⊢
  clear hw0 hy0
  refine plan_abs (fun wx => Below w0.heap.size w0 wx) [(true, 0), (true, 1), (true, 2), (true, 3), (true, 4), (true, 5)] (by kernel_rfl) (by kernel_rfl) (fun _ _ d _ _ h => by cases d <;> exact h) fun w1 hs1 => ⟨hs1.below _, ?_⟩
  have B1 := Lib.hid (B0.out.trans ((hs1.below w0.heap.size).mono B0.out.size))
  clear hs1
  iterate 6 (refine pl_run _ ?_ rfl rfl ?_ ?_; rotate_left; (focus (intro w' hS; obtain ⟨c0, c1⟩ := cells2 (L0.out.below hS L0.out.lt); go_simp; exact rfl)); simp only [Act.put, List.setIfInBounds_toArray, List.set_cons_zero, List.set_cons_succ, List.getElem_toArray, List.getElem_cons_zero, List.getElem_cons_succ])
  refine pl_end ?_
  go_wp2_with fail
  refine (awake16_any C w1).mono ?_
  rintro e w2 ⟨rfl, hb2⟩
  have B2 := Lib.hid (B1.out.trans (hb2.mono B1.out.size))
  clear hb2
  by_cases h60 : (60 : Int) < (l.length : Int)
  · have t1 : decide ((60 : Int) < (l.length : Int)) = true := decide_eq_true h60
    clear h60
    go_wp2_with fail
    refine (awake16_any C w2).mono ?_
    rintro e wz ⟨rfl, hbz⟩
    have BZ := Lib.hid (B2.out.trans (hbz.mono B2.out.size))
    go_wp2_with fail
    go_ret
    exact ⟨rfl, BZ.out⟩
  have HL := Lib.hid (show l.length ≤ 60 by omega)
  have t1 : decide ((60 : Int) < (l.length : Int)) = false := decide_eq_false h60
  obtain ⟨n, hn⟩ : ∃ n : Int, (1 + (a : Int) % 7) = n := ⟨_, rfl⟩
  have HN := Lib.hid (show 1 ≤ n ∧ n ≤ 7 by omega)
  have a0' : (0 : Int) ≤ (a : Int) := by omega
  have a1' : (a : Int) ≤ 255 := by have := HA.out; omega
  clear h60
  go_wp2_with fail
  clear t1 a0' a1' hn
  refine (ga_new C w w2 n B2.out (by have := HN.out; omega)).mono ?_
  rintro e w3 ⟨g, rfl, h3, _⟩
  have H3 := Lib.hid h3
  clear h3
  go_wp2_with fail
  go_loopw [10] (fun x wr => ∃ (i : Nat) (t : List Int), i ≤ l.length ∧ x = .int .i64 (i : Int) ∧ GaX C w g t wr ∧ InvG t) (fun x _ => l.length - (intOf x).toNat)
  case atStart => exact ⟨0, _, Nat.zero_le _, rfl, H3.out, inv_newG n⟩
  case round =>
    obtain ⟨i, t, hi, rfl, hst, hit⟩ := hrel
    have HST := Lib.hid hst
    have HIT := Lib.hid hit
    have HII := Lib.hid hi
    have i0 : (0 : Int) ≤ (i : Int) := by omega
    have ib : (i : Int) ≤ 60 := by have := HL.out; omega
    clear hst hi hit
    by_cases hlt : i < l.length
    · have hlt' : (i : Int) < (l.length : Int) := by omega
      have HLT := Lib.hid hlt
      obtain ⟨lb, loff, rfl, _, hat⟩ := opsG_at HV.out i hlt
      have HMO := Lib.hid (memG_at HM.out hlt)
      obtain ⟨⟨x, u⟩, hO⟩ : ∃ o, l.getD i opG0 = o := ⟨_, rfl⟩
      rw [hO] at hat HMO
      have HAT := Lib.hid (show ∀ wx, Below w.heap.size w wx → wx.cell? ⟨lb, loff + i * 2, none⟩ = some (.int .i64 x) ∧ wx.cell? ⟨lb, loff + i * 2 + 1, none⟩ = some (.int .i64 u) from hat)
      have HIP := Lib.hid (inv_put HIT.out x u)
      clear hlt hat hO
      go_wp2_with fail
      refine plan_abs (fun wx => Below w.heap.size w wx) [(true, 0), (true, 1), (true, 2), (true, 3), (true, 4), (true, 5), (true, 6), (true, 7), (true, 8), (true, 9), (true, 10), (false, 11)] (by kernel_rfl) (by kernel_rfl) (fun _ _ d _ _ h => by cases d <;> exact h) fun w5 hs5 => ⟨HST.out.below.trans ((hs5.below _).mono HST.out.below.size), ?_⟩
      have H5 := Lib.hid (HST.out.on (hs5.below _))
      clear hs5
      iterate 11 (refine pl_run _ ?_ rfl rfl ?_ ?_; rotate_left; (focus (intro w' hS; obtain ⟨c0, c1⟩ := HAT.out w' hS; go_simp; exact rfl)); simp only [Act.put, List.setIfInBounds_toArray, List.set_cons_zero, List.set_cons_succ, List.getElem_toArray, List.getElem_cons_zero, List.getElem_cons_succ])
      refine pl_call1 (R := fun w' => GaX C w g (putG t x u) w') _ rfl rfl (by go_simp) (ga_put C x u H5.out HIT.out HMO.out) (fun w' h => h.below) fun w6 h6 => ?_
      have H6 := Lib.hid h6
      clear h6
      simp only [Act.put, List.setIfInBounds_toArray, List.set_cons_zero, List.set_cons_succ, List.getElem_toArray, List.getElem_cons_zero, List.getElem_cons_succ]
      refine pl_end ?_
      go_wp2_with fail
      go_roundw
      case rel => exact ⟨i + 1, _, HLT.out, by go_num, H6.out, HIP.out⟩
      case measure => have := HLT.out; simp [intOf]; omega
    · obtain rfl : i = l.length := by have := HII.out; omega
      have hlt' : ¬ (l.length : Int) < (l.length : Int) := by omega
      have HTWO := Lib.hid (fun h : p ≠ q => ready_two HIT.out h)
      have HCA := Lib.hid (fun h : readyG t p = true => ready_catch HIT.out h)
      clear hlt
      obtain ⟨rp, hrp⟩ : ∃ r, readyG t p = r := ⟨_, rfl⟩
      obtain ⟨rq, hrq⟩ : ∃ r, readyG t q = r := ⟨_, rfl⟩
      obtain ⟨K, hK⟩ : ∃ K, catchG t = K := ⟨_, rfl⟩
      have RP := Lib.hid (fun wx (h : GaX C w g t wx) => hrp ▸ ga_ready C p h HIT.out HP.out)
      have RQ := Lib.hid (fun wx (h : GaX C w g t wx) => hrq ▸ ga_ready C q h HIT.out HQ.out)
      have RK := Lib.hid (fun wx (h : GaX C w g t wx) => hK ▸ ga_catch C h HIT.out)
      rw [hrp, hrq] at HTWO
      rw [hrp, hK] at HCA
      clear hrp hrq hK
      have HEND : ∀ wx, GaX C w g t wx → True := fun _ _ => trivial
      clear HEND
      by_cases hpq : p = q
      · have e1 : (p != q) = false := by rw [hpq]; simp
        clear hpq
        go_wp2_with fail
        refine (RP.out wr HST.out).mono ?_
        rintro e w4 ⟨rfl, hb4⟩
        have H4 := Lib.hid (HST.out.on hb4)
        clear hb4
        cases rp with
        | false =>
          go_wp2_with fail
          go_ret
          exact ⟨rfl, H4.out.below⟩
        | true =>
          have e2 : decide (p ≤ K) = true := decide_eq_true (HCA.out rfl)
          go_wp2_with fail
          refine (RK.out w4 H4.out).mono ?_
          rintro e w5 ⟨rfl, hb5⟩
          have H5 := Lib.hid (H4.out.on hb5)
          clear hb5
          go_wp2_with fail
          go_ret
          exact ⟨rfl, H5.out.below⟩
      · have e1 : (p != q) = true := by rw [bne_iff_ne]; exact hpq
        have HNB := Lib.hid (HTWO.out hpq)
        clear hpq
        go_wp2_with fail
        refine (RP.out wr HST.out).mono ?_
        rintro e w4 ⟨rfl, hb4⟩
        have H4 := Lib.hid (HST.out.on hb4)
        clear hb4
        cases rp with
        | false =>
          go_wp2_with fail
          refine (RP.out w4 H4.out).mono ?_
          rintro e w5 ⟨rfl, hb5⟩
          have H5 := Lib.hid (H4.out.on hb5)
          clear hb5
          go_wp2_with fail
          go_ret
          exact ⟨rfl, H5.out.below⟩
        | true =>
          have e2 : decide (p ≤ K) = true := decide_eq_true (HCA.out rfl)
          cases rq with
          | true => exact (HNB.out rfl rfl).elim
          | false =>
            go_wp2_with fail
            refine (RQ.out w4 H4.out).mono ?_
            rintro e w5 ⟨rfl, hb5⟩
            have H5 := Lib.hid (H4.out.on hb5)
            clear hb5
            go_wp2_with fail
            refine (RP.out w5 H5.out).mono ?_
            rintro e w6 ⟨rfl, hb6⟩
            have H6 := Lib.hid (H5.out.on hb6)
            clear hb6
            go_wp2_with fail
            refine (RK.out w6 H6.out).mono ?_
            rintro e w7 ⟨rfl, hb7⟩
            have H7 := Lib.hid (H6.out.on hb7)
            clear hb7
            go_wp2_with fail
            go_ret
            exact ⟨rfl, H7.out.below⟩
end Go.Proofs.Ytlkdogaonjemhaa
end
