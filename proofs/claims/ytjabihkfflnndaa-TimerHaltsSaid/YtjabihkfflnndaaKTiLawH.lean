/-
  The walk of the law TimerHalts, by the bundle.
-/
import Derived.Test.YtjabihkfflnndaaKFItem
import Derived.Test.YtjabihkfflnndaaKJMath
import Derived.Test.YtjabihkfflnndaaKLOpen
import Derived.BigQuiet
import Derived.WalkSmall
import Derived.Test.YtjabihkfflnndaaKPlanS
import Derived.Test.YtjabihkfflnndaaKRefSum
import Derived.Test.YtjabihkfflnndaaKQuad
import Derived.Deep.RegionHeld3
import Derived.Test.YtjabihkfflnndaaKWText
import Derived.Test.YtjabihkfflnndaaKWBlock
import Derived.Test.YtjabihkfflnndaaKWords
import Derived.OrdersHeld
import Derived.Maps.AppendAt
import Derived.Maps.OwnOps
import Derived.Maps.OwnSet
import Derived.Maps.Ext
import Derived.DeepKeys4
import Derived.Laws.AppendOwn
import Derived.Test.YtjabihkfflnndaaKPlanG
import Derived.Laws.OwnMore
section
open Go Go.RowKit
namespace FF
open WW BB
/-- the blocks of A stay as they are -/
structure Keeps (A : Nat → Prop) (w w' : World) : Prop where
  b0 : Below 0 w w'
  block : ∀ b, A b → b < w.heap.size → w'.heap[b]? = w.heap[b]?
theorem Keeps.refl (A : Nat → Prop) (w : World) : Keeps A w w := ⟨Below.refl 0 w, fun _ _ _ => rfl⟩
theorem Keeps.trans {A : Nat → Prop} {w1 w2 w3 : World} (h : Keeps A w1 w2) (k : Keeps A w2 w3) : Keeps A w1 w3 := ⟨h.b0.trans k.b0, fun b hb hl => (k.block b hb (Nat.lt_of_lt_of_le hl h.b0.size)).trans (h.block b hb hl)⟩
theorem Keeps.of {A : Nat → Prop} {w w' : World} (h : Below w.heap.size w w') : Keeps A w w' := ⟨h.mono (Nat.zero_le _), fun b _ hl => h.block b hl⟩
theorem Keeps.upd {A : Nat → Prop} {c : Nat} {w w' : World} (h : Upd c w w') (hA : ∀ b, A b → b ≠ c) : Keeps A w w' := ⟨h.below (Nat.zero_le _), fun b hb _ => h.block b (hA b hb)⟩
theorem Keeps.sub {A A' : Nat → Prop} {w w' : World} (h : Keeps A w w') (hA : ∀ b, A' b → b < w.heap.size → A b) : Keeps A' w w' := ⟨h.b0, fun b hb hl => h.block b (hA b hb hl) hl⟩
theorem Keeps.below {w w' : World} (h : Keeps (fun b => b < w.heap.size) w w') : Below w.heap.size w w' := ⟨h.b0.os, h.b0.tape, h.b0.output, h.b0.size, fun k hk => h.block k hk hk⟩
/-- what is said of a world rests upon the blocks of A -/
def Dep (A : Nat → Prop) (w : World) (P : World → Prop) : Prop := ∀ w', Keeps A w w' → P w'
theorem Dep.now {A : Nat → Prop} {w : World} {P : World → Prop} (h : Dep A w P) : P w := h w (Keeps.refl A w)
theorem Dep.on {A : Nat → Prop} {w w' : World} {P : World → Prop} (h : Dep A w P) (hk : Keeps A w w') : Dep A w' P := fun w2 h2 => h w2 (hk.trans h2)
theorem Dep.more {A A' : Nat → Prop} {w : World} {P : World → Prop} (h : Dep A w P) (hA : ∀ b, A b → b < w.heap.size → A' b) : Dep A' w P := fun w2 h2 => h w2 (h2.sub hA)
/-- the forest F, resting upon the blocks of A -/
def FoD (A : Nat → Prop) (w : World) (F : Fo) (nv ov : Value) : Prop := ∃ N O : List Iv, N.map Prod.fst = F.nodes ∧ O.map Prod.fst = F.orph ∧ Dep A w (fun w' => IvAt w' nv N ∧ IvAt w' ov O)
theorem FoD.now {A : Nat → Prop} {w : World} {F : Fo} {nv ov : Value} (h : FoD A w F nv ov) : FoAt w F nv ov := by
  obtain ⟨N, O, h1, h2, h3⟩ := h
  exact ⟨N, O, h1, h2, h3.now.1, h3.now.2⟩
theorem FoD.on {A : Nat → Prop} {w w' : World} {F : Fo} {nv ov : Value} (h : FoD A w F nv ov) (hk : Keeps A w w') : FoD A w' F nv ov := by
  obtain ⟨N, O, h1, h2, h3⟩ := h
  exact ⟨N, O, h1, h2, h3.on hk⟩
theorem FoD.more {A A' : Nat → Prop} {w : World} {F : Fo} {nv ov : Value} (h : FoD A w F nv ov) (hA : ∀ b, A b → b < w.heap.size → A' b) : FoD A' w F nv ov := by
  obtain ⟨N, O, h1, h2, h3⟩ := h
  exact ⟨N, O, h1, h2, h3.more hA⟩
theorem FoD.cut {A : Nat → Prop} {w : World} {F : Fo} {nv ov : Value} (h : FoD A w F nv ov) : FoD (fun b => A b ∧ b < w.heap.size) w F nv ov := by
  obtain ⟨N, O, h1, h2, h3⟩ := h
  exact ⟨N, O, h1, h2, fun w2 h4 => h3 w2 (h4.sub fun c hc hl => ⟨hc, hl⟩)⟩
theorem fod_of {w : World} {F : Fo} {nv ov : Value} (h : FoAt w F nv ov) : FoD (fun b => b < w.heap.size) w F nv ov := by
  obtain ⟨N, O, h1, h2, h3, h4⟩ := h
  exact ⟨N, O, h1, h2, fun _ hk => ⟨h3.later hk.below, h4.later hk.below⟩⟩
theorem dep_inn {w : World} {x : Iv} (h : InnV w x) : Dep (fun b => b < w.heap.size) w (fun w' => InnV w' x) := fun _ hk => h.later hk.below
/-- a list as a row -/
def rowL (l : List Value) (i : Nat) : Value := l.getD i undef
/-- the call's three boxes: the forest, the item, the result -/
structure PuS (w : World) (g : Nat) (f1 f2 f3 : Nat → Value) (w' : World) : Prop where
  below : Below w.heap.size w w'
  lo : w.heap.size = g
  a : Blk w' g 4 f1
  b : Blk w' (g + 1) 7 f2
  c : Blk w' (g + 1 + 1) 4 f3
theorem PuS.on {w : World} {g : Nat} {f1 f2 f3 : Nat → Value} {w1 w2 : World} (h : PuS w g f1 f2 f3 w1) (hb : Below w1.heap.size w1 w2) : PuS w g f1 f2 f3 w2 :=
  ⟨h.below.trans (hb.mono h.below.size), h.lo, h.a.below hb h.a.lt, h.b.below hb h.b.lt, h.c.below hb h.c.lt⟩
theorem PuS.mk3 (w : World) (cs ds es : List Value) (t u s : TypeId) (h1 : cs.toArray = row 4 (rowL cs)) (h2 : ds.toArray = row 7 (rowL ds)) (h3 : es.toArray = row 4 (rowL es)) : PuS w w.heap.size (rowL cs) (rowL ds) (rowL es) (((w.alloc (.cells cs.toArray t)).alloc (.cells ds.toArray u)).alloc (.cells es.toArray s)) := by
  have b1 := (Below.refl w.heap.size w).alloc (Nat.le_refl _) (.cells cs.toArray t)
  have b2 := b1.alloc b1.size (.cells ds.toArray u)
  have b3 := b2.alloc b2.size (.cells es.toArray s)
  refine ⟨b3, rfl, ((Blk.new' rfl h1).alloc _).alloc _, (Blk.new' (by simp) h2).alloc _, Blk.new' (by simp) h3⟩
theorem run_append_none_any {P : Program} {w : World} (base : Nat) (t ty e : TypeId) (i : TypeInfo) (size : Nat) (ht : P.underlying t = some (.slice e)) (hi : P.info? e = some i)
    (v : Value) (n : Nat) (xs : List Value) (hown : w.ownsRow base e size v n xs) (c : Nat) :
    (Builtin.append_ #[t, t] ty #[v, .slice none 0 c]).run P w = .ok v w := by
  rcases hown.2 with ⟨rfl, rfl⟩ | ⟨g, cap, cur, rfl, _, _, hnc, _⟩
  · simp [Builtin.append_, run_underlying ht, Go.sizeOf, typeInfo, hi, Builtin.lenOf, Builtin.firstCells]
  · simp [Builtin.append_, run_underlying ht, Go.sizeOf, typeInfo, hi, Builtin.lenOf, Builtin.firstCells, hnc, storeCells]
/-- what was in a slice is appended to an empty row of the call's own -/
theorem run_append_arg0 {P : Program} {w : World} (base : Nat) (t ty e : TypeId) (i : TypeInfo) (z : Value) (size bytes : Nat) (ht : P.underlying t = some (.slice e)) (hi : P.info? e = some i) (hz : i.zero = some z)
    (hsize : i.size = size) (hby : i.bytes = bytes) (hzs : z.cells.size = size) (hsz : 0 < size) (b : Nat) (hown : w.ownsRow base e size (.slice (some ⟨b, 0, none⟩) 0 0) 0 []) (a0 : Option Addr) (j c : Nat) (news : List Value) (hl : news.length = j * size)
    (hn : a0 = none → j = 0) (hnews : ∀ a, a0 = some a → ∀ k u, news[k]? = some u → w.cell? (a.add k) = some u) (h1 : ∀ y ∈ news, y.oneCell' = true)
    (h63 : j ≤ maxLen) (hbytes : j * bytes ≤ 140737488355328) (hbase : base ≤ w.heap.size) :
    ∃ v' w', (Builtin.append_ #[t, t] ty #[.slice (some ⟨b, 0, none⟩) 0 0, .slice a0 j c]).run P w = .ok v' w' ∧ w'.ownsRow base e size v' j news ∧ w.grownBy w' (some b) ∧ ∀ c, v'.ownBlock = some c → c = b ∨ w.heap.size ≤ c := by
  rcases a0 with _ | a
  · obtain rfl := hn rfl
    have hn : news = [] := List.eq_nil_of_length_eq_zero (by simpa using hl)
    subst hn
    exact ⟨_, w, run_append_none_any (P := P) (w := w) base t ty e i size ht hi _ 0 [] hown c, hown, ⟨rfl, rfl, rfl, Nat.le_refl _, fun _ _ _ => rfl⟩, fun c' hc => by
      have hc : some b = some c' := hc
      injection hc with hc
      exact Or.inl hc.symm⟩
  · obtain ⟨v', w', hr, ho, hg, _⟩ := run_append_own (P := P) w base t ty e i z size bytes ht hi hz hsize hby hzs hsz _ 0 [] hown a j c news hl (hnews a rfl) h1 (by simpa using h63) (by simpa using hbytes) hbase
    refine ⟨v', w', hr, by simpa using ho, hg, fun c' hc => ?_⟩
    by_cases hj : j = 0
    · subst hj
      have hn : news = [] := List.eq_nil_of_length_eq_zero (by simpa using hl)
      subst hn
      obtain ⟨cur', hh⟩ : ∃ cur', w.heap[b]? = some (.cells cur' e (0, 0)) := by
        rcases hown.2 with ⟨h, _⟩ | ⟨g', cap', cur', h, _, hh, _⟩
        · cases h
        · injection h with h _ _; injection h with h; injection h with h; subst h; exact ⟨cur', hh⟩
      have h2 := run_append_room (P := P) w t ty e i ht hi b 0 0 cur' hh a 0 c [] (by simp) (by simp) (by simp) (by omega) (by simp)
      rw [hr] at h2
      injection h2 with h2 _
      subst h2
      have hc : some b = some c' := hc
      injection hc with hc
      exact Or.inl hc.symm
    · have h2 := run_append_grow (P := P) w t ty e i z ht hi hz ⟨b, 0, none⟩ 0 0 [] (by simp) (by simp) a j c news (by rw [hsize]; exact hl) (hnews a rfl) (by omega) (by unfold maxLen at h63; omega) (growslice_fits (by omega) (by rw [hby]; simpa using hbytes))
      rw [hr] at h2
      injection h2 with h2 _
      subst h2
      have hc : some w.heap.size = some c' := hc
      injection hc with hc
      exact Or.inr (by omega)
/-- four cells are written -/
theorem set4 {w : World} {a : Nat} {f : Nat → Value} (h : Blk w a 4 f) (u0 u1 u2 u3 : Value) :
    ((((((w.setCell ⟨a, 0, none⟩ u0).setCell ⟨a, 1, none⟩ u1).setCell ⟨a, 2, none⟩ u2).setCell ⟨a, 3, none⟩ u3).cell? ⟨a, 0, none⟩ = some u0 ∧ ((((w.setCell ⟨a, 0, none⟩ u0).setCell ⟨a, 1, none⟩ u1).setCell ⟨a, 2, none⟩ u2).setCell ⟨a, 3, none⟩ u3).cell? ⟨a, 1, none⟩ = some u1 ∧
      ((((w.setCell ⟨a, 0, none⟩ u0).setCell ⟨a, 1, none⟩ u1).setCell ⟨a, 2, none⟩ u2).setCell ⟨a, 3, none⟩ u3).cell? ⟨a, 2, none⟩ = some u2 ∧ ((((w.setCell ⟨a, 0, none⟩ u0).setCell ⟨a, 1, none⟩ u1).setCell ⟨a, 2, none⟩ u2).setCell ⟨a, 3, none⟩ u3).cell? ⟨a, 3, none⟩ = some u3)) ∧
    Upd a w ((((w.setCell ⟨a, 0, none⟩ u0).setCell ⟨a, 1, none⟩ u1).setCell ⟨a, 2, none⟩ u2).setCell ⟨a, 3, none⟩ u3) := by
  have k := ((((h.set 0 u0).set 1 u1).set 2 u2).set 3 u3)
  exact ⟨⟨k.get 0 (by omega), k.get 1 (by omega), k.get 2 (by omega), k.get 3 (by omega)⟩, ((((Upd.refl a w).trans (Upd.set _ _ _ _)).trans (Upd.set _ _ _ _)).trans (Upd.set _ _ _ _)).trans (Upd.set _ _ _ _)⟩
/-- the cells of a slice of items, one behind the other -/
theorem iv_flat {w w' : World} {a0 : Option Addr} {n c : Nat} {L : List Iv} (h : IvAt w (.slice a0 n c) L) (hb : Below w.heap.size w w') : ∀ a, a0 = some a → ∀ k u, (cellsV L)[k]? = some u → w'.cell? (a.add k) = some u := by
  intro a ha k u hu
  obtain ⟨a1, c1, he, h | ⟨b, off, h1, hl, hc⟩⟩ := h
  · subst h; simp [cellsV] at hu
  · injection he with e1 _ _
    rw [ha, h1] at e1
    injection e1 with e1
    subst e1
    have hk : k < L.length * 7 := by rw [← cellsV_len]; exact (List.getElem?_eq_some_iff.1 hu).1
    have hi : k / 7 < L.length := by omega
    have hj : k % 7 < (encV (L.getD (k / 7) v0)).length := by show k % 7 < 7; omega
    have h2 := cellsV_at L (k / 7) (k % 7) _ hi (List.getElem?_eq_getElem hj)
    rw [show k / 7 * 7 + k % 7 = k by omega, hu] at h2
    injection h2 with h2
    have h3 := (hc (k / 7) hi).1 (k % 7) _ (List.getElem?_eq_getElem hj)
    rw [← h2, show off + k / 7 * 7 + k % 7 = off + k by omega] at h3
    rw [Addr.add_lit]
    exact (hb.cell (p := ⟨b, off + k, none⟩) hl).trans h3
theorem iv_none {w : World} {a0 : Option Addr} {n c : Nat} {L : List Iv} (h : IvAt w (.slice a0 n c) L) (h0 : a0 = none) : n = 0 := by
  obtain ⟨a1, c1, he, h | ⟨b, off, h1, _⟩⟩ := h
  · subst h; injection he
  · injection he with e1 _ _
    rw [h0, h1] at e1
    cases e1
end FF
namespace Go.Proofs.Ytjabihkfflnndaa
open FF JJ WW BB
end Go.Proofs.Ytjabihkfflnndaa
end
section
open Go Go.RowKit
namespace TI
/-- the span behind so many that failed -/
def spanF (k : Int) : Int := if k ≤ 0 then 4 else if k = 1 then 8 else 16
theorem span_bound (k : Int) : 4 ≤ spanF k ∧ spanF k ≤ 16 := by unfold spanF; split <;> (try split) <;> omega
theorem span_rise (k : Int) : spanF k ≤ spanF (k + 1) := by
  unfold spanF
  split
  · split
    · omega
    · split <;> omega
  · split
    · rw [if_neg (by omega), if_neg (by omega)]; omega
    · rw [if_neg (by omega), if_neg (by omega)]; omega
/-- a timer: its view, how many failed, how many ticks are left -/
abbrev Tim := Int × Int × Int
/-- a view that there is -/
def clampV (v : Int) : Int := min (max v 1) 1000001
def newT (v : Int) : Tim := (clampV v, 0, 4)
def tickT (t : Tim) : Tim × Bool := if t.1 = 1000001 then (t, false) else if 1 < t.2.2 then ((t.1, t.2.1, t.2.2 - 1), false) else ((t.1 + 1, t.2.1 + 1, spanF (t.2.1 + 1)), true)
def enterT (t : Tim) (v : Int) : Tim × Bool := if t.1 = 1000001 then (t, false) else if v ≤ t.1 then (t, false) else ((min v 1000001, 0, 4), true)
def jumpT (t : Tim) (v : Int) : Tim × Bool := if t.1 = 1000001 then (t, false) else if v ≤ t.1 then (t, false) else ((min v 1000001, t.2.1, spanF t.2.1), true)
/-- a call: its kind, its view -/
abbrev OpT := Nat × Int
def opT0 : OpT := (0, 0)
def doT (t : Tim) (o : OpT) : Tim × Bool := if o.1 % 3 = 0 then tickT t else if o.1 % 3 = 1 then enterT t o.2 else jumpT t o.2
/-- what always holds -/
def InvT (t : Tim) : Prop := 1 ≤ t.1 ∧ t.1 ≤ 1000001 ∧ 0 ≤ t.2.1 ∧ t.2.1 < t.1 ∧ 1 ≤ t.2.2 ∧ t.2.2 ≤ 16
theorem inv_new (v : Int) : InvT (newT v) := by unfold InvT newT clampV; simp only; omega
theorem inv_tick {t : Tim} (h : InvT t) : InvT (tickT t).1 := by
  unfold tickT
  have := span_bound (t.2.1 + 1)
  split
  · exact h
  · split
    · unfold InvT at h ⊢; simp only; omega
    · unfold InvT at h ⊢; simp only; omega
theorem inv_enter {t : Tim} (h : InvT t) (v : Int) : InvT (enterT t v).1 := by
  unfold enterT
  split
  · exact h
  · split
    · exact h
    · unfold InvT at h ⊢; simp only; omega
theorem inv_jump {t : Tim} (h : InvT t) (v : Int) : InvT (jumpT t v).1 := by
  unfold jumpT
  have := span_bound t.2.1
  split
  · exact h
  · split
    · exact h
    · unfold InvT at h ⊢; simp only; omega
theorem inv_do {t : Tim} (h : InvT t) (o : OpT) : InvT (doT t o).1 := by
  unfold doT
  split
  · exact inv_tick h
  · split
    · exact inv_enter h _
    · exact inv_jump h _
/-- views never fall -/
theorem do_rises {t : Tim} (h : InvT t) (o : OpT) : t.1 ≤ (doT t o).1.1 := by
  unfold InvT at h
  unfold doT tickT enterT jumpT
  split
  · split
    · exact Int.le_refl _
    · split <;> (simp only; omega)
  · split
    · split
      · exact Int.le_refl _
      · split <;> (simp only; omega)
    · split
      · exact Int.le_refl _
      · split <;> (simp only; omega)
/-- at the halt nothing goes on -/
theorem do_halt {t : Tim} (h : t.1 = 1000001) (o : OpT) : doT t o = (t, false) := by
  unfold doT tickT enterT jumpT
  rw [if_pos h, if_pos h, if_pos h]
  split
  · rfl
  · split <;> rfl
end TI
namespace TI
open FF WW BB
/-- the calls in memory -/
def OpsTAt (w : World) (v : Value) (l : List OpT) : Prop :=
  ∃ a0 cap, v = .slice a0 l.length cap ∧ (l = [] ∨ ∃ b off, a0 = some ⟨b, off, none⟩ ∧ b < w.heap.size ∧ ∀ i, i < l.length → w.cell? ⟨b, off + i * 2, none⟩ = some (.int .u8 ((l.getD i opT0).1 : Int)) ∧ w.cell? ⟨b, off + i * 2 + 1, none⟩ = some (.int .i64 (l.getD i opT0).2))
theorem opsT_at {w : World} {a0 : Option Addr} {n cap : Nat} {l : List OpT} (h : OpsTAt w (.slice a0 n cap) l) (i : Nat) (hi : i < l.length) :
    ∃ b off, a0 = some ⟨b, off, none⟩ ∧ n = l.length ∧ ∀ wx, Below w.heap.size w wx → wx.cell? ⟨b, off + i * 2, none⟩ = some (.int .u8 ((l.getD i opT0).1 : Int)) ∧ wx.cell? ⟨b, off + i * 2 + 1, none⟩ = some (.int .i64 (l.getD i opT0).2) := by
  obtain ⟨a, c, e, h⟩ := h
  injection e with e1 e2 e3
  subst e1 e2 e3
  rcases h with rfl | ⟨b, off, e, hl, hc⟩
  · simp at hi
  · exact ⟨b, off, e, rfl, fun wx hb => ⟨(hb.cell (p := ⟨b, off + i * 2, none⟩) hl).trans (hc i hi).1, (hb.cell (p := ⟨b, off + i * 2 + 1, none⟩) hl).trans (hc i hi).2⟩⟩
/-- what fits -/
def MemT15 (l : List OpT) : Prop := l.length ≤ 9223372036854775807 ∧ ∀ o ∈ l, o.1 < 256 ∧ -9223372036854775808 ≤ o.2 ∧ o.2 ≤ 9223372036854775807
theorem memT_at {l : List OpT} (h : MemT15 l) {i : Nat} (hi : i < l.length) : (l.getD i opT0).1 < 256 ∧ -9223372036854775808 ≤ (l.getD i opT0).2 ∧ (l.getD i opT0).2 ≤ 9223372036854775807 := by
  rw [List.getD_eq_getElem?_getD, List.getElem?_eq_getElem hi]; exact h.2 _ (List.getElem_mem hi)
end TI
end
section
open Go Go.RowKit
namespace TI
open FF WW BB
/-- the timer behind a call -/
def Next15 (At : (Nat → Prop) → World → Nat → Tim → Prop) (O : Nat → Prop) (w : World) (g : Nat) (t : Tim) (w' : World) : Prop :=
  ∃ O', At O' w' g t ∧ Keeps (fun b => ¬ O b) w w' ∧ ∀ b, O' b → O b ∨ w.heap.size ≤ b
theorem low15 {A : Nat → Prop} {w w' : World} {n : Nat} (h : Keeps A w w') (hA : ∀ b, b < n → A b) (hn : n ≤ w.heap.size) : Below n w w' :=
  ⟨h.b0.os, h.b0.tape, h.b0.output, h.b0.size, fun k hk => h.block k (hA k hk) (Nat.lt_of_lt_of_le hk hn)⟩
end TI
namespace Go.Proofs.Ytjabihkfflnndaa
open TI FF WW BB
structure Code15 where
  At : (Nat → Prop) → World → Nat → Tim → Prop
  keep : ∀ {O w w' g t}, At O w g t → Keeps O w w' → At O w' g t
  lt : ∀ {O w g t}, At O w g t → ∀ b, O b → b < w.heap.size
  new : ∀ w (v : Int), -9223372036854775808 ≤ v ∧ v ≤ 9223372036854775807 → Calls Try.prog 8 #[.int .i64 v] w fun e w' => ∃ g O, e = .returned (.pointer (some ⟨g, 0, none⟩)) ∧ At O w' g (newT v) ∧ (∀ b, O b → w.heap.size ≤ b) ∧ Below w.heap.size w w'
  span : ∀ w (k : Int), -9223372036854775808 ≤ k ∧ k ≤ 9223372036854775807 → Calls Try.prog 16 #[.int .i64 k] w fun e w' => e = .returned (.int .i64 (spanF k)) ∧ Below w.heap.size w w'
  view : ∀ O w g t, At O w g t → InvT t → Calls Try.prog 11 #[.pointer (some ⟨g, 0, none⟩)] w fun e w' => e = .returned (.int .i64 t.1) ∧ Below w.heap.size w w'
  fails : ∀ O w g t, At O w g t → InvT t → Calls Try.prog 13 #[.pointer (some ⟨g, 0, none⟩)] w fun e w' => e = .returned (.int .i64 t.2.1) ∧ Below w.heap.size w w'
  left : ∀ O w g t, At O w g t → InvT t → Calls Try.prog 14 #[.pointer (some ⟨g, 0, none⟩)] w fun e w' => e = .returned (.int .i64 t.2.2) ∧ Below w.heap.size w w'
  halted : ∀ O w g t, At O w g t → InvT t → Calls Try.prog 15 #[.pointer (some ⟨g, 0, none⟩)] w fun e w' => e = .returned (.bool (decide (1000000 < t.1))) ∧ Below w.heap.size w w'
  tick : ∀ O w g t, At O w g t → InvT t → Calls Try.prog 18 #[.pointer (some ⟨g, 0, none⟩)] w fun e w' => e = .returned (.bool (tickT t).2) ∧ Next15 At O w g (tickT t).1 w'
  enter : ∀ O w g t (v : Int), At O w g t → InvT t → -9223372036854775808 ≤ v ∧ v ≤ 9223372036854775807 → Calls Try.prog 19 #[.pointer (some ⟨g, 0, none⟩), .int .i64 v] w fun e w' => e = .returned (.bool (enterT t v).2) ∧ Next15 At O w g (enterT t v).1 w'
  jump : ∀ O w g t (v : Int), At O w g t → InvT t → -9223372036854775808 ≤ v ∧ v ≤ 9223372036854775807 → Calls Try.prog 20 #[.pointer (some ⟨g, 0, none⟩), .int .i64 v] w fun e w' => e = .returned (.bool (jumpT t v).2) ∧ Next15 At O w g (jumpT t v).1 w'
/-- the timer behind calls of a law that began in w0 -/
def TmX (C : Code15) (w0 : World) (g : Nat) (t : Tim) (w : World) : Prop := ∃ O, C.At O w g t ∧ (∀ b, O b → w0.heap.size ≤ b) ∧ Below w0.heap.size w0 w
theorem TmX.below {C : Code15} {w0 w : World} {g : Nat} {t : Tim} (h : TmX C w0 g t w) : Below w0.heap.size w0 w := by obtain ⟨_, _, _, h⟩ := h; exact h
theorem TmX.on {C : Code15} {w0 w w' : World} {g : Nat} {t : Tim} (h : TmX C w0 g t w) (hb : Below w.heap.size w w') : TmX C w0 g t w' := by
  obtain ⟨O, h1, h2, h3⟩ := h
  exact ⟨O, C.keep h1 (Keeps.of hb), h2, h3.trans (hb.mono h3.size)⟩
theorem TmX.next {C : Code15} {w0 w w' : World} {g : Nat} {t : Tim} {O : Nat → Prop} (h2 : ∀ b, O b → w0.heap.size ≤ b) (h3 : Below w0.heap.size w0 w) (h : Next15 C.At O w g t w') : TmX C w0 g t w' := by
  obtain ⟨O', k1, k2, k3⟩ := h
  exact ⟨O', k1, fun b hb => (k3 b hb).elim (h2 b) (Nat.le_trans h3.size), h3.trans (low15 k2 (fun b hb hO => by have := h2 b hO; omega) h3.size)⟩
theorem tm_new (C : Code15) (w0 w : World) (v : Int) (hb : Below w0.heap.size w0 w) (hv : -9223372036854775808 ≤ v ∧ v ≤ 9223372036854775807) : Calls Try.prog 8 #[.int .i64 v] w fun e w' => ∃ g, e = .returned (.pointer (some ⟨g, 0, none⟩)) ∧ TmX C w0 g (newT v) w' ∧ Below w.heap.size w w' :=
  (C.new w v hv).mono fun _ _ ⟨g, O, he, h1, h2, h3⟩ => ⟨g, he, ⟨O, h1, fun b hO => Nat.le_trans hb.size (h2 b hO), hb.trans (h3.mono hb.size)⟩, h3⟩
theorem tm_view (C : Code15) {w0 w : World} {g : Nat} {t : Tim} (h : TmX C w0 g t w) (hi : InvT t) : Calls Try.prog 11 #[.pointer (some ⟨g, 0, none⟩)] w fun e w' => e = .returned (.int .i64 t.1) ∧ Below w.heap.size w w' := by
  obtain ⟨O, h1, _⟩ := h; exact C.view O w g t h1 hi
theorem tm_fails (C : Code15) {w0 w : World} {g : Nat} {t : Tim} (h : TmX C w0 g t w) (hi : InvT t) : Calls Try.prog 13 #[.pointer (some ⟨g, 0, none⟩)] w fun e w' => e = .returned (.int .i64 t.2.1) ∧ Below w.heap.size w w' := by
  obtain ⟨O, h1, _⟩ := h; exact C.fails O w g t h1 hi
theorem tm_left (C : Code15) {w0 w : World} {g : Nat} {t : Tim} (h : TmX C w0 g t w) (hi : InvT t) : Calls Try.prog 14 #[.pointer (some ⟨g, 0, none⟩)] w fun e w' => e = .returned (.int .i64 t.2.2) ∧ Below w.heap.size w w' := by
  obtain ⟨O, h1, _⟩ := h; exact C.left O w g t h1 hi
theorem tm_halted (C : Code15) {w0 w : World} {g : Nat} {t : Tim} (h : TmX C w0 g t w) (hi : InvT t) : Calls Try.prog 15 #[.pointer (some ⟨g, 0, none⟩)] w fun e w' => e = .returned (.bool (decide (1000000 < t.1))) ∧ Below w.heap.size w w' := by
  obtain ⟨O, h1, _⟩ := h; exact C.halted O w g t h1 hi
theorem tm_tick (C : Code15) {w0 w : World} {g : Nat} {t : Tim} (h : TmX C w0 g t w) (hi : InvT t) : Calls Try.prog 18 #[.pointer (some ⟨g, 0, none⟩)] w fun e w' => e = .returned (.bool (tickT t).2) ∧ TmX C w0 g (tickT t).1 w' := by
  obtain ⟨O, h1, h2, h3⟩ := h; exact (C.tick O w g t h1 hi).mono fun _ _ ⟨he, hn⟩ => ⟨he, TmX.next h2 h3 hn⟩
theorem tm_enter (C : Code15) {w0 w : World} {g : Nat} {t : Tim} (v : Int) (h : TmX C w0 g t w) (hi : InvT t) (hv : -9223372036854775808 ≤ v ∧ v ≤ 9223372036854775807) : Calls Try.prog 19 #[.pointer (some ⟨g, 0, none⟩), .int .i64 v] w fun e w' => e = .returned (.bool (enterT t v).2) ∧ TmX C w0 g (enterT t v).1 w' := by
  obtain ⟨O, h1, h2, h3⟩ := h; exact (C.enter O w g t v h1 hi hv).mono fun _ _ ⟨he, hn⟩ => ⟨he, TmX.next h2 h3 hn⟩
theorem tm_jump (C : Code15) {w0 w : World} {g : Nat} {t : Tim} (v : Int) (h : TmX C w0 g t w) (hi : InvT t) (hv : -9223372036854775808 ≤ v ∧ v ≤ 9223372036854775807) : Calls Try.prog 20 #[.pointer (some ⟨g, 0, none⟩), .int .i64 v] w fun e w' => e = .returned (.bool (jumpT t v).2) ∧ TmX C w0 g (jumpT t v).1 w' := by
  obtain ⟨O, h1, h2, h3⟩ := h; exact (C.jump O w g t v h1 hi hv).mono fun _ _ ⟨he, hn⟩ => ⟨he, TmX.next h2 h3 hn⟩
end Go.Proofs.Ytjabihkfflnndaa
end
section
open Go Go.RowKit
namespace RR
open FF BB
theorem row2_ (a b : Value) : (#[a, b] : Array Value) = row 2 (rowL [a, b]) := rfl
theorem row3_ (a b c : Value) : (#[a, b, c] : Array Value) = row 3 (rowL [a, b, c]) := rfl
theorem row4_ (a b c d : Value) : (#[a, b, c, d] : Array Value) = row 4 (rowL [a, b, c, d]) := rfl
theorem row6_ (a b c d e f : Value) : (#[a, b, c, d, e, f] : Array Value) = row 6 (rowL [a, b, c, d, e, f]) := rfl
theorem rset2 {w : World} {a : Nat} {f : Nat → Value} (h : Blk w a 2 f) (u0 u1 : Value) :
    Blk ((w.setCell ⟨a, 0, none⟩ u0).setCell ⟨a, 1, none⟩ u1) a 2 (rowL [u0, u1]) ∧ Upd a w ((w.setCell ⟨a, 0, none⟩ u0).setCell ⟨a, 1, none⟩ u1) := by
  refine ⟨((h.set 0 u0).set 1 u1).congr _ fun i hi => ?_, ((Upd.refl a w).trans (Upd.set _ _ _ _)).trans (Upd.set _ _ _ _)⟩
  match i, hi with
  | 0, _ => rfl
  | 1, _ => rfl
theorem rset3 {w : World} {a : Nat} {f : Nat → Value} (h : Blk w a 3 f) (u0 u1 u2 : Value) :
    Blk (((w.setCell ⟨a, 0, none⟩ u0).setCell ⟨a, 1, none⟩ u1).setCell ⟨a, 2, none⟩ u2) a 3 (rowL [u0, u1, u2]) ∧ Upd a w (((w.setCell ⟨a, 0, none⟩ u0).setCell ⟨a, 1, none⟩ u1).setCell ⟨a, 2, none⟩ u2) := by
  refine ⟨(((h.set 0 u0).set 1 u1).set 2 u2).congr _ fun i hi => ?_, (((Upd.refl a w).trans (Upd.set _ _ _ _)).trans (Upd.set _ _ _ _)).trans (Upd.set _ _ _ _)⟩
  match i, hi with
  | 0, _ => rfl
  | 1, _ => rfl
  | 2, _ => rfl
theorem rset6 {w : World} {a : Nat} {f : Nat → Value} (h : Blk w a 6 f) (u0 u1 u2 u3 u4 u5 : Value) :
    Blk ((((((w.setCell ⟨a, 0, none⟩ u0).setCell ⟨a, 1, none⟩ u1).setCell ⟨a, 2, none⟩ u2).setCell ⟨a, 3, none⟩ u3).setCell ⟨a, 4, none⟩ u4).setCell ⟨a, 5, none⟩ u5) a 6 (rowL [u0, u1, u2, u3, u4, u5]) ∧
    Upd a w ((((((w.setCell ⟨a, 0, none⟩ u0).setCell ⟨a, 1, none⟩ u1).setCell ⟨a, 2, none⟩ u2).setCell ⟨a, 3, none⟩ u3).setCell ⟨a, 4, none⟩ u4).setCell ⟨a, 5, none⟩ u5) := by
  refine ⟨((((((h.set 0 u0).set 1 u1).set 2 u2).set 3 u3).set 4 u4).set 5 u5).congr _ fun i hi => ?_, ((((((Upd.refl a w).trans (Upd.set _ _ _ _)).trans (Upd.set _ _ _ _)).trans (Upd.set _ _ _ _)).trans (Upd.set _ _ _ _)).trans (Upd.set _ _ _ _)).trans (Upd.set _ _ _ _)⟩
  match i, hi with
  | 0, _ => rfl
  | 1, _ => rfl
  | 2, _ => rfl
  | 3, _ => rfl
  | 4, _ => rfl
  | 5, _ => rfl
theorem cells2 {w : World} {b : Nat} {x y : Value} (h : Blk w b 2 (rowL [x, y])) : w.cell? ⟨b, 0, none⟩ = some x ∧ w.cell? ⟨b, 1, none⟩ = some y := ⟨h.get 0 (by omega), h.get 1 (by omega)⟩
theorem cells3 {w : World} {b : Nat} {x y z : Value} (h : Blk w b 3 (rowL [x, y, z])) : w.cell? ⟨b, 0, none⟩ = some x ∧ w.cell? ⟨b, 1, none⟩ = some y ∧ w.cell? ⟨b, 2, none⟩ = some z := ⟨h.get 0 (by omega), h.get 1 (by omega), h.get 2 (by omega)⟩
theorem cells4 {w : World} {b : Nat} {x y z u : Value} (h : Blk w b 4 (rowL [x, y, z, u])) : w.cell? ⟨b, 0, none⟩ = some x ∧ w.cell? ⟨b, 1, none⟩ = some y ∧ w.cell? ⟨b, 2, none⟩ = some z ∧ w.cell? ⟨b, 3, none⟩ = some u := ⟨h.get 0 (by omega), h.get 1 (by omega), h.get 2 (by omega), h.get 3 (by omega)⟩
theorem cells6 {w : World} {b : Nat} {x y z u v t : Value} (h : Blk w b 6 (rowL [x, y, z, u, v, t])) : w.cell? ⟨b, 0, none⟩ = some x ∧ w.cell? ⟨b, 1, none⟩ = some y ∧ w.cell? ⟨b, 2, none⟩ = some z ∧ w.cell? ⟨b, 3, none⟩ = some u ∧ w.cell? ⟨b, 4, none⟩ = some v ∧ w.cell? ⟨b, 5, none⟩ = some t :=
  ⟨h.get 0 (by omega), h.get 1 (by omega), h.get 2 (by omega), h.get 3 (by omega), h.get 4 (by omega), h.get 5 (by omega)⟩
end RR
namespace BB
/-- a store in a plan -/
theorem pl_store {P : Program} {ops : Array Oper} {S : World → Prop} {Q : Exit → Act → World → Prop} {i : Nat} {r : List (Bool × Nat)} {a : Act} {w w' : World} (o : Oper) (ho : ops[i]? = some o) (hg : o.guard = none) (h : (execOp a.eval o).run P w = .ok .skip w') (hS : S w') (hK : wpPlan P ops Q S r (a.put o.dst undef) w') : wpPlan P ops Q S ((false, i) :: r) a w := by
  show wpOp P ops Q i _ a w
  unfold wpOp; simp only [ho, Region.wanted, hg, if_true]
  left; unfold Oper.wp; rw [h]; exact ⟨hS, hK⟩
theorem pe_store {P : Program} {ops : Array Oper} {S : World → Prop} {Q : Exit → Act → World → Prop} {t i : Nat} {r : List (Bool × Nat)} {a : Act} {w w' : World} (o : Oper) (ho : ops[i]? = some o) (hg : o.guard = none) (h : (execOp a.eval o).run P w = .ok .skip w') (hS : S w') (hK : wpPlanE P ops Q S t r (a.put o.dst undef) w') : wpPlanE P ops Q S t ((false, i) :: r) a w := by
  show wpOp P ops Q i _ a w
  unfold wpOp; simp only [ho, Region.wanted, hg, if_true]
  left; unfold Oper.wp; rw [h]; exact ⟨fun _ => hS, hK⟩
end BB
end
section
open Go Go.RowKit
namespace Go.Proofs.Ytjabihkfflnndaa
open TI RR FF WW BB
set_option maxRecDepth 100000 in
set_option maxHeartbeats 4000000 in
theorem awake15_any (C : Code15) (w : World) : Calls Try.prog 7 #[] w fun e w' => e = .returned (.bool true) ∧ Below w.heap.size w w' := by
  go_enter Try.func7, Try.ntmps7
  go_wp2_with fail
  refine (tm_new C w w 3 (Below.refl _ _) (by omega)).mono ?_
  rintro e w1 ⟨g, rfl, h1, hb1⟩
  have B1 := Lib.hid hb1
  clear hb1 h1
  go_wp2_with fail
  refine (tm_new C w w1 3 B1.out (by omega)).mono ?_
  rintro e w2 ⟨g2, rfl, h2, _⟩
  have H2 := Lib.hid h2
  clear h2
  go_wp2_with fail
  refine (tm_view C H2.out (inv_new 3)).mono ?_
  rintro e w3 ⟨rfl, hb3⟩
  have H3 := Lib.hid (H2.out.on hb3)
  have e3 : (newT 3).1 = 3 := by decide
  rw [e3]
  clear hb3
  go_wp2_with fail
  refine (C.span w3 1 (by omega)).mono ?_
  rintro e w4 ⟨rfl, hb4⟩
  have H4 := Lib.hid (H3.out.on hb4)
  have e4 : spanF 1 = 8 := by decide
  rw [e4]
  clear hb4
  go_wp2_with fail
  go_ret
  exact ⟨rfl, H4.out.below⟩
set_option maxRecDepth 100000 in
set_option maxHeartbeats 4000000 in
/-- the reference's span -/
theorem rspan_any (k : Int) (w : World) (hk : k ≤ 9223372036854775807) : Calls Try.prog 17 #[.int .i64 k] w fun e w' => e = .returned (.int .i64 (spanF k)) ∧ Below w.heap.size w w' := by
  have HK := Lib.hid hk
  clear hk
  go_enter Try.func17, Try.ntmps17
  go_wp2_with fail
  go_loopw [3, 4] (fun x y wr => ∃ i : Nat, i ≤ 2 ∧ ((i : Int) ≤ k ∨ i = 0) ∧ x = .int .i64 (if i = 0 then 4 else if i = 1 then 8 else 16) ∧ y = .int .i64 (i : Int) ∧ Below w.heap.size w wr) (fun _ y _ => 2 - (intOf y).toNat)
  case atStart => exact ⟨0, by omega, .inr rfl, rfl, rfl, Below.refl _ _⟩
  case round =>
    obtain ⟨i, hi, hik, rfl, rfl, hb⟩ := hrel
    have HB := Lib.hid hb
    clear hb
    obtain rfl | rfl | rfl : i = 0 ∨ i = 1 ∨ i = 2 := by omega
    · by_cases hlt : (0 : Int) < k
      · have HLT := Lib.hid hlt
        have d0 : decide ((0 : Int) < k) = true := decide_eq_true hlt
        have hlt' : (((0 : Nat) : Int)) < k := hlt
        clear hi hik
        go_wp2_with fail
        go_roundw
        case rel => exact ⟨1, by omega, .inl (by have := HLT.out; omega), rfl, by go_num, HB.out⟩
        case measure => simp [intOf]
      · have HE := Lib.hid (show spanF k = 4 by unfold spanF; rw [if_pos (by omega)])
        have d0 : decide ((0 : Int) < k) = false := decide_eq_false hlt
        have hlt' : ¬ (((0 : Nat) : Int)) < k := hlt
        clear hi hik
        go_wp2_with fail
        go_ret
        exact ⟨by rw [HE.out]; rfl, HB.out⟩
    · by_cases hlt : (1 : Int) < k
      · have HLT := Lib.hid hlt
        have d0 : decide ((1 : Int) < k) = true := decide_eq_true hlt
        have hlt' : (((1 : Nat) : Int)) < k := hlt
        clear hi hik
        go_wp2_with fail
        go_roundw
        case rel => exact ⟨2, by omega, .inl (by have := HLT.out; omega), rfl, by go_num, HB.out⟩
        case measure => simp [intOf]
      · have HE := Lib.hid (show spanF k = 8 by unfold spanF; rw [if_neg (by omega), if_pos (by omega)])
        have d0 : decide ((1 : Int) < k) = false := decide_eq_false hlt
        have hlt' : ¬ (((1 : Nat) : Int)) < k := hlt
        clear hi hik
        go_wp2_with fail
        go_ret
        exact ⟨by rw [HE.out]; rfl, HB.out⟩
    · have HE := Lib.hid (show spanF k = 16 by unfold spanF; rw [if_neg (by omega), if_neg (by omega)])
      clear hi
      by_cases hlt : (2 : Int) < k
      · have d0 : decide ((2 : Int) < k) = true := decide_eq_true hlt
        have hlt' : (((2 : Nat) : Int)) < k := hlt
        go_wp2_with fail
        go_ret
        exact ⟨by rw [HE.out]; rfl, HB.out⟩
      · have d0 : decide ((2 : Int) < k) = false := decide_eq_false hlt
        have hlt' : ¬ (((2 : Nat) : Int)) < k := hlt
        go_wp2_with fail
        go_ret
        exact ⟨by rw [HE.out]; rfl, HB.out⟩
set_option maxRecDepth 100000 in
set_option maxHeartbeats 8000000 in
theorem lawS15 (C : Code15) (n : Int) (w : World) (hn : -9223372036854775808 ≤ n ∧ n ≤ 9223372036854775807) :
    Calls Try.prog 4 #[.int .i64 n] w fun e w' => e = .returned (.bool true) ∧ Below w.heap.size w w' := by
  have HN := Lib.hid hn
  have HSB := Lib.hid (span_bound n)
  have HSR := Lib.hid (span_rise n)
  have HSE := Lib.hid (show spanF (min (max n 0) 10) = spanF n by unfold spanF; split <;> split <;> (try split) <;> (try split) <;> omega)
  obtain ⟨S, hS⟩ : ∃ S, spanF n = S := ⟨_, rfl⟩
  have HS := Lib.hid hS
  rw [hS] at HSB HSR HSE
  clear hn hS
  go_enter Try.func4, Try.ntmps4
  go_wp2_with fail
  refine (C.span w n HN.out).mono ?_
  rintro e w1 ⟨rfl, hb1⟩
  have B1 := Lib.hid hb1
  rw [HS.out]
  clear hb1
  go_wp2_with fail
  refine (awake15_any C w1).mono ?_
  rintro e w2 ⟨rfl, hb2⟩
  have B2 := Lib.hid (B1.out.trans (hb2.mono B1.out.size))
  clear hb2
  go_wp2_with fail
  refine (rspan_any (min (max n 0) 10) w2 (by omega)).mono ?_
  rintro e w3 ⟨rfl, hb3⟩
  have B3 := Lib.hid (B2.out.trans (hb3.mono B2.out.size))
  rw [HSE.out]
  clear hb3
  have s1 : (S != S) = false := by simp
  have s2 := HSB.out.1
  have s3 := HSB.out.2
  have d2 : decide (S < 4) = false := decide_eq_false (by omega)
  have d3 : decide ((16 : Int) < S) = false := decide_eq_false (by omega)
  by_cases h9 : n = 9223372036854775807
  · subst h9
    go_wp2_with fail
    go_ret
    exact ⟨rfl, B3.out⟩
  · have e9 : (n == 9223372036854775807) = false := by simpa using h9
    have n1 := HN.out.1
    have n2 := HN.out.2
    have n3 : n + 1 ≤ 9223372036854775807 := by omega
    have n4 : -9223372036854775808 ≤ n + 1 := by omega
    have hwr : IntKind.i64.wrap (n + 1) = n + 1 := by rw [IntKind.wrap_i64]; omega
    go_wp2_with fail
    refine (C.span w3 (n + 1) (by omega)).mono ?_
    rintro e w4 ⟨rfl, hb4⟩
    have B4 := Lib.hid (B3.out.trans (hb4.mono B3.out.size))
    have s4 := HSR.out
    obtain ⟨S', hS'⟩ : ∃ S', spanF (n + 1) = S' := ⟨_, rfl⟩
    rw [hS'] at s4 ⊢
    have d4 : decide (S ≤ S') = true := decide_eq_true s4
    clear hb4 hS'
    go_wp2_with fail
    go_ret
    exact ⟨rfl, B4.out⟩
end Go.Proofs.Ytjabihkfflnndaa
end
section
open Go Go.RowKit
namespace Go.Proofs.Ytjabihkfflnndaa
open TI RR FF WW BB
theorem _root_.TI.Next15.pre {At : (Nat → Prop) → World → Nat → Tim → Prop} {O : Nat → Prop} {w w1 w' : World} {g : Nat} {t : Tim} (h : Next15 At O w1 g t w') (hb : Below w.heap.size w w1) : Next15 At O w g t w' := by
  obtain ⟨O', k1, k2, k3⟩ := h
  exact ⟨O', k1, (Keeps.of hb).trans k2, fun b h => (k3 b h).imp id (Nat.le_trans hb.size)⟩
set_option maxRecDepth 100000 in
set_option maxHeartbeats 8000000 in
theorem call15_next (C : Code15) (O : Nat → Prop) (w : World) (g : Nat) (t : Tim) (o : OpT) (h : C.At O w g t) (hi : InvT t) (ho : o.1 < 256 ∧ -9223372036854775808 ≤ o.2 ∧ o.2 ≤ 9223372036854775807) :
    Calls Try.prog 12 #[.pointer (some ⟨g, 0, none⟩), .agg #[.int .u8 (o.1 : Int), .int .i64 o.2]] w fun e w' => e = .returned (.bool (doT t o).2) ∧ Next15 C.At O w g (doT t o).1 w' := by
  obtain ⟨k, v⟩ := o
  have HO := Lib.hid ho
  have HI := Lib.hid hi
  have X1 := Lib.hid ((Below.refl w.heap.size w).alloc (Nat.le_refl _) (.cells #[.int .u8 (k : Int), .int .i64 v] 32))
  have Q1 := Lib.hid (show Blk (w.alloc (.cells #[.int .u8 (k : Int), .int .i64 v] 32)) w.heap.size 2 (rowL [.int .u8 (k : Int), .int .i64 v]) from Blk.new' rfl (row2_ _ _))
  have H1 := Lib.hid (C.keep h (Keeps.of X1.out))
  obtain ⟨n, hn⟩ : ∃ n, w.heap.size = n := ⟨_, rfl⟩
  have HN := Lib.hid hn
  obtain ⟨w1, hw1⟩ : ∃ w1, w.alloc (.cells #[.int .u8 (k : Int), .int .i64 v] 32) = w1 := ⟨_, rfl⟩
  have HW1 := Lib.hid hw1
  rw [hw1] at H1 Q1 X1
  rw [hn] at Q1
  clear h hi ho hn hw1
  go_enter Try.func12, Try.ntmps12
  go_upto_region 1 with fail
  rw [HW1.out, HN.out]
  obtain ⟨c0, c1⟩ := cells2 Q1.out
  have hb : k < 256 := HO.out.1
  by_cases h0 : k % 3 = 0
  · have t0 : ((k : Int) % 3 == 0) = true := by rw [beq_iff_eq]; omega
    have HD := Lib.hid (show doT t (k, v) = tickT t by unfold doT; rw [if_pos h0])
    clear h0
    go_wp2_with fail
    refine (C.tick O w1 g t H1.out HI.out).mono ?_
    rintro e w2 ⟨rfl, h2⟩
    have H2 := Lib.hid (h2.pre X1.out)
    clear h2
    go_wp2_with fail
    go_ret
    exact ⟨by rw [HD.out]; rfl, by rw [HD.out]; exact H2.out⟩
  · have t0 : ((k : Int) % 3 == 0) = false := by rw [beq_eq_false_iff_ne]; omega
    by_cases h1 : k % 3 = 1
    · have t1 : ((k : Int) % 3 == 1) = true := by rw [beq_iff_eq]; omega
      have HD := Lib.hid (show doT t (k, v) = enterT t v by unfold doT; rw [if_neg h0, if_pos h1])
      clear h0 h1
      go_wp2_with fail
      refine (C.enter O w1 g t v H1.out HI.out HO.out.2).mono ?_
      rintro e w2 ⟨rfl, h2⟩
      have H2 := Lib.hid (h2.pre X1.out)
      clear h2
      go_wp2_with fail
      go_ret
      exact ⟨by rw [HD.out]; rfl, by rw [HD.out]; exact H2.out⟩
    · have t1 : ((k : Int) % 3 == 1) = false := by rw [beq_eq_false_iff_ne]; omega
      have HD := Lib.hid (show doT t (k, v) = jumpT t v by unfold doT; rw [if_neg h0, if_neg h1])
      clear h0 h1
      go_wp2_with fail
      refine (C.jump O w1 g t v H1.out HI.out HO.out.2).mono ?_
      rintro e w2 ⟨rfl, h2⟩
      have H2 := Lib.hid (h2.pre X1.out)
      clear h2
      go_wp2_with fail
      go_ret
      exact ⟨by rw [HD.out]; rfl, by rw [HD.out]; exact H2.out⟩
theorem call15_any (C : Code15) (w0 w : World) (g : Nat) (t : Tim) (o : OpT) (h : TmX C w0 g t w) (hi : InvT t) (ho : o.1 < 256 ∧ -9223372036854775808 ≤ o.2 ∧ o.2 ≤ 9223372036854775807) :
    Calls Try.prog 12 #[.pointer (some ⟨g, 0, none⟩), .agg #[.int .u8 (o.1 : Int), .int .i64 o.2]] w fun e w' => e = .returned (.bool (doT t o).2) ∧ TmX C w0 g (doT t o).1 w' := by
  obtain ⟨O, h1, h2, h3⟩ := h
  exact (call15_next C O w g t o h1 hi ho).mono fun _ _ ⟨he, hn⟩ => ⟨he, TmX.next h2 h3 hn⟩
def timV (t : Tim) : Value := .agg #[.int .i64 t.1, .int .i64 t.2.1, .int .i64 t.2.2]
theorem agg_tim (w : World) : (isAgg 27).run Try.prog w = .ok true w := by kernel_rfl
theorem size_tim (w : World) : (Go.sizeOf 27).run Try.prog w = .ok 3 w := by kernel_rfl
set_option maxRecDepth 100000 in
set_option maxHeartbeats 4000000 in
theorem rnew15_any (v : Int) (w : World) : Calls Try.prog 9 #[.int .i64 v] w fun e w' => e = .returned (timV (newT v)) ∧ Below w.heap.size w w' := by
  have A1 := Lib.hid ((Below.refl w.heap.size w).alloc (Nat.le_refl _) (.cells #[.int .i64 (min (max v 1) 1000001), .int .i64 0, .int .i64 4] 27))
  go_enter Try.func9, Try.ntmps9
  have z0 := (show Blk (w.alloc (.cells #[.int .i64 0, .int .i64 0, .int .i64 0] 27)) w.heap.size 3 (rowL [.int .i64 0, .int .i64 0, .int .i64 0]) from Blk.new' rfl (row3_ _ _ _)).frz
  have z1 := z0 0
  have z2 := z0 1
  have z3 := z0 2
  clear z0
  go_wp2_with fail
  refine bodyPost_ret (v := .agg (row 3 (rowL [.int .i64 (min (max v 1) 1000001), .int .i64 0, .int .i64 4]))) (results_row (b := w.heap.size) (N := 3) (m := 3) Try.results9 (by simp) (agg_tim _) (size_tim _) (Blk.new' rfl (row3_ _ _ _)).cells (Nat.le_refl _)) rfl ?_
  exact ⟨rfl, A1.out⟩
end Go.Proofs.Ytjabihkfflnndaa
end
section
open Go Go.RowKit
namespace TI
open RR FF WW BB
/-- the call's three boxes: the timer, the call, the result -/
structure DoS15 (w : World) (n : Nat) (f1 f2 f3 : Nat → Value) (w' : World) : Prop where
  below : Below w.heap.size w w'
  lo : w.heap.size = n
  a : Blk w' n 3 f1
  b : Blk w' (n + 1) 2 f2
  c : Blk w' (n + 1 + 1) 3 f3
theorem DoS15.on {w : World} {n : Nat} {f1 f2 f3 : Nat → Value} {w1 w2 : World} (h : DoS15 w n f1 f2 f3 w1) (hb : Below w1.heap.size w1 w2) : DoS15 w n f1 f2 f3 w2 :=
  ⟨h.below.trans (hb.mono h.below.size), h.lo, h.a.below hb h.a.lt, h.b.below hb h.b.lt, h.c.below hb h.c.lt⟩
theorem DoS15.mk3 (w : World) (cs ds es : List Value) (t u s : TypeId) (h1 : cs.toArray = row 3 (rowL cs)) (h2 : ds.toArray = row 2 (rowL ds)) (h3 : es.toArray = row 3 (rowL es)) : DoS15 w w.heap.size (rowL cs) (rowL ds) (rowL es) (((w.alloc (.cells cs.toArray t)).alloc (.cells ds.toArray u)).alloc (.cells es.toArray s)) := by
  have b1 := (Below.refl w.heap.size w).alloc (Nat.le_refl _) (.cells cs.toArray t)
  have b2 := b1.alloc b1.size (.cells ds.toArray u)
  have b3 := b2.alloc b2.size (.cells es.toArray s)
  refine ⟨b3, rfl, ((Blk.new' rfl h1).alloc _).alloc _, (Blk.new' (by simp) h2).alloc _, Blk.new' (by simp) h3⟩
theorem results_rowT {P : Program} {w : World} {fn : Func} {p q T b N m : Nat} {f : Nat → Value} {v : Value} {tmps : Array Value} (h : fn.results = #[.cell p T, .tmp q]) (hp : tmps.getD p undef = .pointer (some ⟨b, 0, none⟩)) (hq : tmps.getD q undef = v)
    (hT : (isAgg T).run P w = .ok true w) (hS : (Go.sizeOf T).run P w = .ok m w) (hb : Cells w b N f) (hN : m ≤ N) : (results fn tmps).run P w = .ok (.tuple #[.agg (row m f), v]) w := by
  have := run_load_row (P := P) (off := 0) hT hS hb (by omega)
  simp only [Nat.zero_add] at this
  have hp' : tmps[p]?.getD undef = .pointer (some ⟨b, 0, none⟩) := by simpa using hp
  have hq' : tmps[q]?.getD undef = v := by simpa using hq
  unfold results
  simp [h, hp', hq', asAddr, this]
/-- a store of a whole struct in a plan -/
theorem pl_storeR {P : Program} {ops : Array Oper} {S : World → Prop} {Q : Exit → Act → World → Prop} {i : Nat} {r : List (Bool × Nat)} {a : Act} {w : World} {T : TypeId} {ad x : Operand} {b m : Nat} {f g : Nat → Value} (o : Oper) (ho : ops[i]? = some o) (hg : o.guard = none) (hop : o.op = .store T ad x)
    (ha : a.eval ad = .pointer (some ⟨b, 0, none⟩)) (hx : a.eval x = .agg (row m g)) (hS : (Go.sizeOf T).run P w = .ok m w) (hb : Blk w b m f) (h1 : ∀ i, i < m → (g i).oneCell' = true)
    (hK : ∀ w', Blk w' b m g → Upd b w w' → S w' ∧ wpPlan P ops Q S r (a.put o.dst undef) w') : wpPlan P ops Q S ((false, i) :: r) a w := by
  obtain ⟨w', hr, hm1, hm2⟩ := run_op_store (P := P) hop ha hx hS hb (by omega) h1
  have hB : Blk w' b m g := hm1.congr _ fun i hi => by rw [if_pos ⟨Nat.zero_le _, by omega⟩]; rfl
  exact pl_store o ho hg hr (hK w' hB hm2).1 (hK w' hB hm2).2
theorem rowL3_one (a b c : Int) : ∀ i, i < 3 → ((rowL [.int .i64 a, .int .i64 b, .int .i64 c]) i).oneCell' = true := fun i hi => by
  match i, hi with
  | 0, _ => rfl
  | 1, _ => rfl
  | 2, _ => rfl
end TI
namespace Go.Proofs.Ytjabihkfflnndaa
open TI RR FF WW BB
set_option maxRecDepth 100000 in
set_option maxHeartbeats 16000000 in
theorem rdo15_any (t : Tim) (o : OpT) (w : World) (hi : InvT t) (ho : o.1 < 256 ∧ -9223372036854775808 ≤ o.2 ∧ o.2 ≤ 9223372036854775807) :
    Calls Try.prog 10 #[timV t, .agg #[.int .u8 (o.1 : Int), .int .i64 o.2]] w fun e w' => e = .returned (.tuple #[timV (doT t o).1, .bool (doT t o).2]) ∧ Below w.heap.size w w' := by
  obtain ⟨a, b, c⟩ := t
  obtain ⟨k, v⟩ := o
  have HI := Lib.hid (show 1 ≤ a ∧ a ≤ 1000001 ∧ 0 ≤ b ∧ b < a ∧ 1 ≤ c ∧ c ≤ 16 from hi)
  have HO := Lib.hid ho
  have K0 := Lib.hid (DoS15.mk3 w [.int .i64 a, .int .i64 b, .int .i64 c] [.int .u8 (k : Int), .int .i64 v] [.int .i64 0, .int .i64 0, .int .i64 0] 27 32 27 rfl rfl rfl)
  obtain ⟨n, hn⟩ : ∃ n, w.heap.size = n := ⟨_, rfl⟩
  have HN := Lib.hid hn
  unfold timV
  simp only
  clear hi ho
  go_enter Try.func10, Try.ntmps10
  go_upto_region 1 with fail
  rw [hn] at K0
  generalize hw1 : ((w.alloc (.cells #[.int .i64 a, .int .i64 b, .int .i64 c] 27)).alloc (.cells #[.int .u8 (k : Int), .int .i64 v] 32)).alloc (.cells #[.int .i64 0, .int .i64 0, .int .i64 0] 27) = w1
  have K1 := Lib.hid (show DoS15 w n (rowL [.int .i64 a, .int .i64 b, .int .i64 c]) (rowL [.int .u8 (k : Int), .int .i64 v]) (rowL [.int .i64 0, .int .i64 0, .int .i64 0]) w1 by rw [← hw1]; exact K0.out)
  clear hw1 K0 hn
  obtain ⟨c0, c1, c2⟩ := cells3 K1.out.a
  obtain ⟨d0, d1⟩ := cells2 K1.out.b
  obtain ⟨r0, r1, r2⟩ := cells3 K1.out.c
  have z0 := K1.out.c.frz 0
  have z1 := K1.out.c.frz 1
  have z2 := K1.out.c.frz 2
  have i1 := HI.out
  -- the end: what lies in the result
  have END := Lib.hid (show ∀ (w' : World) (x y z : Int) (B : Bool) (A : Act), Blk w' (n + 1 + 1) 3 (rowL [.int .i64 x, .int .i64 y, .int .i64 z]) → Below w.heap.size w w' → A.tmps.getD 4 undef = .pointer (some ⟨n + 1 + 1, 0, none⟩) → A.tmps.getD 5 undef = .bool B → A.defers = [] → doT (a, b, c) (k, v) = ((x, y, z), B) →
      bodyPost Try.prog Try.f10 (fun e w' => e = .returned (.tuple #[.agg #[.int .i64 (doT (a, b, c) (k, v)).1.1, .int .i64 (doT (a, b, c) (k, v)).1.2.1, .int .i64 (doT (a, b, c) (k, v)).1.2.2], .bool (doT (a, b, c) (k, v)).2]) ∧ Below w.heap.size w w') .ret A w' from fun w' x y z B A hB hb h4 h5 hd he => by
    refine bodyPost_ret (v := .tuple #[.agg (row 3 (rowL [.int .i64 x, .int .i64 y, .int .i64 z])), .bool B]) (results_rowT (N := 3) Try.results10 h4 h5 (agg_tim _) (size_tim _) hB.cells (Nat.le_refl _)) hd ?_
    exact ⟨by rw [he]; rfl, hb⟩)
  by_cases h0 : a = 1000001
  · have e0 : (a == 1000001) = true := by simpa using h0
    have HE := Lib.hid (show doT (a, b, c) (k, v) = ((a, b, c), false) from do_halt h0 _)
    clear h0 i1
    go_wp2_with fail
    obtain ⟨xi, ui⟩ := rset3 K1.out.c (.int .i64 a) (.int .i64 b) (.int .i64 c)
    exact END.out _ a b c false _ xi (K1.out.below.trans (ui.below (by rw [HN.out]; omega))) rfl rfl rfl HE.out
  · have e0 : (a == 1000001) = false := by simpa using h0
    have hk := HO.out.1
    by_cases h3 : k % 3 = 0
    · have t0 : ((k : Int) % 3 == 0) = true := by rw [beq_iff_eq]; omega
      by_cases hc : 1 < c
      · have dc : decide ((1 : Int) < c) = true := decide_eq_true hc
        have HE := Lib.hid (show doT (a, b, c) (k, v) = ((a, b, c - 1), false) by unfold doT tickT; rw [if_pos h3, if_neg h0, if_pos hc])
        have y2 := K1.out.a.frz 2
        clear h0 h3
        go_upto_region 7 with fail
        have K2 := Lib.hid (show DoS15 w n (rowL [.int .i64 a, .int .i64 b, .int .i64 (c - 1)]) (rowL [.int .u8 (k : Int), .int .i64 v]) (rowL [.int .i64 0, .int .i64 0, .int .i64 0]) (w1.setCell ⟨n, 2, none⟩ (.int .i64 (c - 1))) from
          ⟨K1.out.below.trans ((Upd.set w1 n 2 _).below (by rw [HN.out]; omega)), K1.out.lo, (K1.out.a.set 2 _).congr _ fun i hi => by
            match i, hi with
            | 0, _ => rfl
            | 1, _ => rfl
            | 2, _ => rfl, K1.out.b.set_other _ _ (by show n + 1 ≠ n; omega), K1.out.c.set_other _ _ (by show n + 1 + 1 ≠ n; omega)⟩)
        obtain ⟨w2, hw2⟩ : ∃ w2, w1.setCell ⟨n, 2, none⟩ (.int .i64 (c - 1)) = w2 := ⟨_, rfl⟩
        rw [hw2] at K2 ⊢
        clear hw2 c0 c1 c2 d0 d1 r0 r1 r2 z0 z1 z2 y2
        obtain ⟨c0, c1, c2⟩ := cells3 K2.out.a
        obtain ⟨r0, r1, r2⟩ := cells3 K2.out.c
        have z0 := K2.out.c.frz 0
        have z1 := K2.out.c.frz 1
        have z2 := K2.out.c.frz 2
        go_wp2_with fail
        obtain ⟨xi, ui⟩ := rset3 K2.out.c (.int .i64 a) (.int .i64 b) (.int .i64 (c - 1))
        exact END.out _ a b (c - 1) false _ xi (K2.out.below.trans (ui.below (by rw [HN.out]; omega))) rfl rfl rfl HE.out
      · have dc : decide ((1 : Int) < c) = false := decide_eq_false hc
        have HE := Lib.hid (show doT (a, b, c) (k, v) = ((a + 1, b + 1, spanF (b + 1)), true) by unfold doT tickT; rw [if_pos h3, if_neg h0, if_neg hc])
        have hwa : IntKind.i64.wrap (a + 1) = a + 1 := by rw [IntKind.wrap_i64]; omega
        have hwb : IntKind.i64.wrap (b + 1) = b + 1 := by rw [IntKind.wrap_i64]; omega
        clear h0 h3 z0 z1 z2 r0 r1 r2
        go_wp2_with fail
        clear c0 c1 c2 d0 d1
        refine plan_abs (fun wx => Below w.heap.size w wx ∧ Blk wx n 3 (rowL [.int .i64 a, .int .i64 b, .int .i64 c]) ∧ Blk wx (n + 1) 2 (rowL [.int .u8 (k : Int), .int .i64 v])) [(true, 0), (true, 1), (true, 2), (true, 3), (true, 4), (true, 5), (true, 6), (true, 7), (true, 8), (false, 9), (true, 10), (false, 11), (true, 12)] (by kernel_rfl) (by kernel_rfl) (fun _ _ d _ _ h => by cases d <;> exact h) fun w5 hs5 => ⟨⟨(K1.out.on (hs5.below _)).below, (K1.out.on (hs5.below _)).a, (K1.out.on (hs5.below _)).b⟩, ?_⟩
        have K5 := Lib.hid (K1.out.on (hs5.below _))
        clear hs5
        iterate 9 (refine pl_run _ ?_ rfl rfl ?_ ?_; rotate_left; (focus (intro w' hS; obtain ⟨c0, c1, c2⟩ := cells3 hS.2.1; obtain ⟨d0, d1⟩ := cells2 hS.2.2; go_simp; exact rfl)); simp only [Act.put, List.setIfInBounds_toArray, List.set_cons_zero, List.set_cons_succ, List.getElem_toArray, List.getElem_cons_zero, List.getElem_cons_succ])
        refine pl_call1 _ rfl rfl (by go_simp) (rspan_any (b + 1) w5 (by omega)) (fun w9 hb => ⟨(K5.out.on hb).below, (K5.out.on hb).a, (K5.out.on hb).b⟩) fun w6 hb6 => ?_
        have K6 := Lib.hid (K5.out.on hb6)
        clear hb6
        simp only [Act.put, List.setIfInBounds_toArray, List.set_cons_zero, List.set_cons_succ, List.getElem_toArray, List.getElem_cons_zero, List.getElem_cons_succ]
        iterate 1 (refine pl_run _ ?_ rfl rfl ?_ ?_; rotate_left; (focus (intro w' hS; obtain ⟨c0, c1, c2⟩ := cells3 hS.2.1; obtain ⟨d0, d1⟩ := cells2 hS.2.2; go_simp; exact rfl)); simp only [Act.put, List.setIfInBounds_toArray, List.set_cons_zero, List.set_cons_succ, List.getElem_toArray, List.getElem_cons_zero, List.getElem_cons_succ])
        refine pl_storeR (m := 3) (g := rowL [.int .i64 (a + 1), .int .i64 (b + 1), .int .i64 (spanF (b + 1))]) _ rfl rfl rfl rfl rfl (size_tim _) K6.out.c (rowL3_one _ _ _) fun w7 hB7 hu7 => ⟨⟨K6.out.below.trans (hu7.below (by rw [HN.out]; omega)), K6.out.a.upd hu7 (by omega), K6.out.b.upd hu7 (by omega)⟩, ?_⟩
        have B7 := Lib.hid (K6.out.below.trans (hu7.below (by rw [HN.out]; omega)))
        have R7 := Lib.hid hB7
        clear hB7 hu7
        simp only [Act.put, List.getElem_toArray, List.getElem_cons_zero, List.getElem_cons_succ]
        iterate 1 (refine pl_run _ ?_ rfl rfl ?_ ?_; rotate_left; (focus (intro w' hS; go_simp; exact rfl)); simp only [Act.put, List.setIfInBounds_toArray, List.set_cons_zero, List.set_cons_succ, List.getElem_toArray, List.getElem_cons_zero, List.getElem_cons_succ])
        refine pl_end ?_
        go_wp2_with fail
        exact END.out _ (a + 1) (b + 1) (spanF (b + 1)) true _ R7.out B7.out rfl rfl rfl HE.out
    · have t0 : ((k : Int) % 3 == 0) = false := by rw [beq_eq_false_iff_ne]; omega
      by_cases hv : v ≤ a
      · have dv : decide (v ≤ a) = true := decide_eq_true hv
        have HE := Lib.hid (show doT (a, b, c) (k, v) = ((a, b, c), false) by
          unfold doT enterT jumpT
          rw [if_neg h3, if_neg h0, if_pos hv, if_neg h0, if_pos hv]
          split <;> rfl)
        clear h0 h3 i1
        go_wp2_with fail
        obtain ⟨xi, ui⟩ := rset3 K1.out.c (.int .i64 a) (.int .i64 b) (.int .i64 c)
        exact END.out _ a b c false _ xi (K1.out.below.trans (ui.below (by rw [HN.out]; omega))) rfl rfl rfl HE.out
      · have dv : decide (v ≤ a) = false := decide_eq_false hv
        by_cases h2 : k % 3 = 2
        · have t2 : ((k : Int) % 3 == 2) = true := by rw [beq_iff_eq]; omega
          have HE := Lib.hid (show doT (a, b, c) (k, v) = ((min v 1000001, b, spanF b), true) by
            unfold doT jumpT
            rw [if_neg h3, if_neg (by omega), if_neg h0, if_neg hv])
          clear h0 h3 h2 z0 z1 z2 r0 r1 r2
          go_wp2_with fail
          clear c0 c1 c2 d0 d1
          refine plan_abs (fun wx => Below w.heap.size w wx ∧ Blk wx n 3 (rowL [.int .i64 a, .int .i64 b, .int .i64 c]) ∧ Blk wx (n + 1) 2 (rowL [.int .u8 (k : Int), .int .i64 v])) [(true, 0), (true, 1), (true, 2), (true, 3), (true, 4), (false, 5), (true, 6), (false, 7), (true, 8)] (by kernel_rfl) (by kernel_rfl) (fun _ _ d _ _ h => by cases d <;> exact h) fun w5 hs5 => ⟨⟨(K1.out.on (hs5.below _)).below, (K1.out.on (hs5.below _)).a, (K1.out.on (hs5.below _)).b⟩, ?_⟩
          have K5 := Lib.hid (K1.out.on (hs5.below _))
          clear hs5
          iterate 5 (refine pl_run _ ?_ rfl rfl ?_ ?_; rotate_left; (focus (intro w' hS; obtain ⟨c0, c1, c2⟩ := cells3 hS.2.1; obtain ⟨d0, d1⟩ := cells2 hS.2.2; go_simp; exact rfl)); simp only [Act.put, List.setIfInBounds_toArray, List.set_cons_zero, List.set_cons_succ, List.getElem_toArray, List.getElem_cons_zero, List.getElem_cons_succ])
          refine pl_call1 _ rfl rfl (by go_simp) (rspan_any (b) w5 (by omega)) (fun w9 hb => ⟨(K5.out.on hb).below, (K5.out.on hb).a, (K5.out.on hb).b⟩) fun w6 hb6 => ?_
          have K6 := Lib.hid (K5.out.on hb6)
          clear hb6
          simp only [Act.put, List.setIfInBounds_toArray, List.set_cons_zero, List.set_cons_succ, List.getElem_toArray, List.getElem_cons_zero, List.getElem_cons_succ]
          iterate 1 (refine pl_run _ ?_ rfl rfl ?_ ?_; rotate_left; (focus (intro w' hS; obtain ⟨c0, c1, c2⟩ := cells3 hS.2.1; obtain ⟨d0, d1⟩ := cells2 hS.2.2; go_simp; exact rfl)); simp only [Act.put, List.setIfInBounds_toArray, List.set_cons_zero, List.set_cons_succ, List.getElem_toArray, List.getElem_cons_zero, List.getElem_cons_succ])
          refine pl_storeR (m := 3) (g := rowL [.int .i64 (min v 1000001), .int .i64 (b), .int .i64 (spanF b)]) _ rfl rfl rfl rfl rfl (size_tim _) K6.out.c (rowL3_one _ _ _) fun w7 hB7 hu7 => ⟨⟨K6.out.below.trans (hu7.below (by rw [HN.out]; omega)), K6.out.a.upd hu7 (by omega), K6.out.b.upd hu7 (by omega)⟩, ?_⟩
          have B7 := Lib.hid (K6.out.below.trans (hu7.below (by rw [HN.out]; omega)))
          have R7 := Lib.hid hB7
          clear hB7 hu7
          simp only [Act.put, List.getElem_toArray, List.getElem_cons_zero, List.getElem_cons_succ]
          iterate 1 (refine pl_run _ ?_ rfl rfl ?_ ?_; rotate_left; (focus (intro w' hS; go_simp; exact rfl)); simp only [Act.put, List.setIfInBounds_toArray, List.set_cons_zero, List.set_cons_succ, List.getElem_toArray, List.getElem_cons_zero, List.getElem_cons_succ])
          refine pl_end ?_
          go_wp2_with fail
          exact END.out _ (min v 1000001) (b) (spanF b) true _ R7.out B7.out rfl rfl rfl HE.out
        · have t2 : ((k : Int) % 3 == 2) = false := by rw [beq_eq_false_iff_ne]; omega
          have HE := Lib.hid (show doT (a, b, c) (k, v) = ((min v 1000001, 0, spanF 0), true) by
            unfold doT enterT
            rw [if_neg h3, if_pos (by omega), if_neg h0, if_neg hv]; rfl)
          clear h0 h3 h2 z0 z1 z2 r0 r1 r2
          go_wp2_with fail
          clear c0 c1 c2 d0 d1
          refine plan_abs (fun wx => Below w.heap.size w wx ∧ Blk wx n 3 (rowL [.int .i64 a, .int .i64 b, .int .i64 c]) ∧ Blk wx (n + 1) 2 (rowL [.int .u8 (k : Int), .int .i64 v])) [(true, 0), (true, 1), (true, 2), (true, 3), (true, 4), (false, 5), (true, 6), (false, 7), (true, 8)] (by kernel_rfl) (by kernel_rfl) (fun _ _ d _ _ h => by cases d <;> exact h) fun w5 hs5 => ⟨⟨(K1.out.on (hs5.below _)).below, (K1.out.on (hs5.below _)).a, (K1.out.on (hs5.below _)).b⟩, ?_⟩
          have K5 := Lib.hid (K1.out.on (hs5.below _))
          clear hs5
          iterate 5 (refine pl_run _ ?_ rfl rfl ?_ ?_; rotate_left; (focus (intro w' hS; obtain ⟨c0, c1, c2⟩ := cells3 hS.2.1; obtain ⟨d0, d1⟩ := cells2 hS.2.2; go_simp; exact rfl)); simp only [Act.put, List.setIfInBounds_toArray, List.set_cons_zero, List.set_cons_succ, List.getElem_toArray, List.getElem_cons_zero, List.getElem_cons_succ])
          refine pl_call1 _ rfl rfl (by go_simp) (rspan_any (0) w5 (by omega)) (fun w9 hb => ⟨(K5.out.on hb).below, (K5.out.on hb).a, (K5.out.on hb).b⟩) fun w6 hb6 => ?_
          have K6 := Lib.hid (K5.out.on hb6)
          clear hb6
          simp only [Act.put, List.setIfInBounds_toArray, List.set_cons_zero, List.set_cons_succ, List.getElem_toArray, List.getElem_cons_zero, List.getElem_cons_succ]
          iterate 1 (refine pl_run _ ?_ rfl rfl ?_ ?_; rotate_left; (focus (intro w' hS; obtain ⟨c0, c1, c2⟩ := cells3 hS.2.1; obtain ⟨d0, d1⟩ := cells2 hS.2.2; go_simp; exact rfl)); simp only [Act.put, List.setIfInBounds_toArray, List.set_cons_zero, List.set_cons_succ, List.getElem_toArray, List.getElem_cons_zero, List.getElem_cons_succ])
          refine pl_storeR (m := 3) (g := rowL [.int .i64 (min v 1000001), .int .i64 (0), .int .i64 (spanF 0)]) _ rfl rfl rfl rfl rfl (size_tim _) K6.out.c (rowL3_one _ _ _) fun w7 hB7 hu7 => ⟨⟨K6.out.below.trans (hu7.below (by rw [HN.out]; omega)), K6.out.a.upd hu7 (by omega), K6.out.b.upd hu7 (by omega)⟩, ?_⟩
          have B7 := Lib.hid (K6.out.below.trans (hu7.below (by rw [HN.out]; omega)))
          have R7 := Lib.hid hB7
          clear hB7 hu7
          simp only [Act.put, List.getElem_toArray, List.getElem_cons_zero, List.getElem_cons_succ]
          iterate 1 (refine pl_run _ ?_ rfl rfl ?_ ?_; rotate_left; (focus (intro w' hS; go_simp; exact rfl)); simp only [Act.put, List.setIfInBounds_toArray, List.set_cons_zero, List.set_cons_succ, List.getElem_toArray, List.getElem_cons_zero, List.getElem_cons_succ])
          refine pl_end ?_
          go_wp2_with fail
          exact END.out _ (min v 1000001) (0) (spanF 0) true _ R7.out B7.out rfl rfl rfl HE.out
end Go.Proofs.Ytjabihkfflnndaa
end
section
open Go Go.RowKit
namespace TI
open RR FF WW BB
def timF (t : Tim) : Nat → Value := rowL [.int .i64 t.1, .int .i64 t.2.1, .int .i64 t.2.2]
/-- a store of a whole struct in a plan with an end -/
theorem pe_storeR {P : Program} {ops : Array Oper} {S : World → Prop} {Q : Exit → Act → World → Prop} {t i : Nat} {r : List (Bool × Nat)} {a : Act} {w : World} {T : TypeId} {ad x : Operand} {b m : Nat} {f g : Nat → Value} (o : Oper) (ho : ops[i]? = some o) (hg : o.guard = none) (hop : o.op = .store T ad x)
    (ha : a.eval ad = .pointer (some ⟨b, 0, none⟩)) (hx : a.eval x = .agg (row m g)) (hS : (Go.sizeOf T).run P w = .ok m w) (hb : Blk w b m f) (h1 : ∀ i, i < m → (g i).oneCell' = true)
    (hK : ∀ w', Blk w' b m g → Upd b w w' → S w' ∧ wpPlanE P ops Q S t r (a.put o.dst undef) w') : wpPlanE P ops Q S t ((false, i) :: r) a w := by
  obtain ⟨w', hr, hm1, hm2⟩ := run_op_store (P := P) hop ha hx hS hb (by omega) h1
  have hB : Blk w' b m g := hm1.congr _ fun i hi => by rw [if_pos ⟨Nat.zero_le _, by omega⟩]; rfl
  exact pe_store o ho hg hr (hK w' hB hm2).1 (hK w' hB hm2).2
end TI
namespace Go.Proofs.Ytjabihkfflnndaa
open TI RR FF WW BB
/-- the code's timer at t, the reference's in the box y at s -/
def TwI (C : Code15) (w0 : World) (y g : Nat) (t s : Tim) (w : World) : Prop :=
  ∃ O, C.At O w g t ∧ (∀ b, O b → w0.heap.size ≤ b ∧ b ≠ y) ∧ Below w0.heap.size w0 w ∧ Blk w y 3 (timF s) ∧ w0.heap.size ≤ y
theorem TwI.below {C : Code15} {w0 w : World} {y g : Nat} {t s : Tim} (h : TwI C w0 y g t s w) : Below w0.heap.size w0 w := by obtain ⟨_, _, _, h, _⟩ := h; exact h
theorem TwI.box {C : Code15} {w0 w : World} {y g : Nat} {t s : Tim} (h : TwI C w0 y g t s w) : Blk w y 3 (timF s) := by obtain ⟨_, _, _, _, h, _⟩ := h; exact h
theorem TwI.tm {C : Code15} {w0 w : World} {y g : Nat} {t s : Tim} (h : TwI C w0 y g t s w) : TmX C w0 g t w := by obtain ⟨O, h1, h2, h3, _⟩ := h; exact ⟨O, h1, fun b hb => (h2 b hb).1, h3⟩
theorem TwI.on {C : Code15} {w0 w w' : World} {y g : Nat} {t s : Tim} (h : TwI C w0 y g t s w) (hb : Below w.heap.size w w') : TwI C w0 y g t s w' := by
  obtain ⟨O, h1, h2, h3, h4, h5⟩ := h
  exact ⟨O, C.keep h1 (Keeps.of hb), h2, h3.trans (hb.mono h3.size), h4.below hb h4.lt, h5⟩
/-- the box is written -/
theorem TwI.put {C : Code15} {w0 w w' : World} {y g : Nat} {t s s' : Tim} (h : TwI C w0 y g t s w) (hu : Upd y w w') (hB : Blk w' y 3 (timF s')) : TwI C w0 y g t s' w' := by
  obtain ⟨O, h1, h2, h3, h4, h5⟩ := h
  exact ⟨O, C.keep h1 (Keeps.upd hu fun b hb => (h2 b hb).2), h2, h3.trans (hu.below h5), hB, h5⟩
/-- a call on the code's timer -/
theorem twi_call (C : Code15) (w0 w : World) (y g : Nat) (t s : Tim) (o : OpT) (h : TwI C w0 y g t s w) (hi : InvT t) (ho : o.1 < 256 ∧ -9223372036854775808 ≤ o.2 ∧ o.2 ≤ 9223372036854775807) :
    Calls Try.prog 12 #[.pointer (some ⟨g, 0, none⟩), .agg #[.int .u8 (o.1 : Int), .int .i64 o.2]] w fun e w' => ∃ v, e = .returned v ∧ (v = .bool (doT t o).2 ∧ TwI C w0 y g (doT t o).1 s w') := by
  obtain ⟨O, h1, h2, h3, h4, h5⟩ := h
  refine (call15_next C O w g t o h1 hi ho).mono fun e w' ⟨he, O', k1, k2, k3⟩ => ⟨_, he, rfl, O', k1, fun b hb => ?_, h3.trans (low15 k2 (fun b hb hO => by have := (h2 b hO).1; omega) h3.size), h4.of_heap (k2.block y (fun hO => (h2 y hO).2 rfl) h4.lt), h5⟩
  rcases k3 b hb with h | h
  · exact h2 b h
  · exact ⟨Nat.le_trans h3.size h, fun e => by have := h4.lt; omega⟩
set_option maxRecDepth 100000 in
set_option maxHeartbeats 16000000 in
theorem lawP15 (C : Code15) (v0 : Int) (l : List OpT) (v : Value) (w : World) (hn : -9223372036854775808 ≤ v0 ∧ v0 ≤ 9223372036854775807) (hv : OpsTAt w v l) (hm : MemT15 l) :
    Calls Try.prog 3 #[.int .i64 v0, v] w fun e w' => e = .returned (.bool true) ∧ Below w.heap.size w w' := by
  have HV := Lib.hid hv
  have HM := Lib.hid hm
  have HN := Lib.hid hn
  obtain ⟨a0, cap, rfl, _⟩ := hv
  have hlm := hm.1
  clear hm hn
  go_enter Try.func3, Try.ntmps3
  go_wp2_with fail
  refine (awake15_any C w).mono ?_
  rintro e w1 ⟨rfl, hb1⟩
  have B1 := Lib.hid hb1
  clear hb1
  by_cases h200 : (200 : Int) < (l.length : Int)
  · go_wp2_with fail
    refine (awake15_any C w1).mono ?_
    rintro e wz ⟨rfl, hbz⟩
    have BZ := Lib.hid (B1.out.trans (hbz.mono B1.out.size))
    go_wp2_with fail
    go_ret
    exact ⟨rfl, BZ.out⟩
  have HL := Lib.hid (show l.length ≤ 200 by omega)
  have d200 : decide ((200 : Int) < (l.length : Int)) = false := decide_eq_false h200
  clear h200
  go_wp2_with fail
  refine (tm_new C w w1 v0 B1.out HN.out).mono ?_
  rintro e w2 ⟨g, rfl, h2, _⟩
  have H2 := Lib.hid h2
  clear h2 d200
  go_wp2_with fail
  refine (rnew15_any v0 w2).mono ?_
  rintro e w3 ⟨rfl, hb3⟩
  have H3 := Lib.hid (H2.out.on hb3)
  have HI0 := Lib.hid (inv_new v0)
  obtain ⟨t0, ht0⟩ : ∃ t0, newT v0 = t0 := ⟨_, rfl⟩
  rw [ht0] at H3 HI0 ⊢
  obtain ⟨ta, tb, tc⟩ := t0
  unfold timV
  simp only
  clear hb3 ht0
  have T0 := Lib.hid (show TwI C w w3.heap.size g (ta, tb, tc) (ta, tb, tc) (w3.alloc (.cells #[.int .i64 ta, .int .i64 tb, .int .i64 tc] 27)) from by
    obtain ⟨O, h1, h2, h3⟩ := H3.out
    exact ⟨O, C.keep h1 (Keeps.of ((Below.refl _ _).alloc (Nat.le_refl _) _)), fun b hb => ⟨h2 b hb, fun e => by have := C.lt h1 b hb; omega⟩, h3.alloc h3.size _, Blk.new' rfl (row3_ _ _ _), h3.size⟩)
  have zz := (show Blk (w3.alloc (.cells #[.int .i64 0, .int .i64 0, .int .i64 0] 27)) w3.heap.size 3 (rowL [.int .i64 0, .int .i64 0, .int .i64 0]) from Blk.new' rfl (row3_ _ _ _)).frz
  have z0 := zz 0
  have z1 := zz 1
  have z2 := zz 2
  clear zz
  go_upto_region 4 with fail
  clear z0 z1 z2
  obtain ⟨y, hy⟩ : ∃ y, w3.heap.size = y := ⟨_, rfl⟩
  obtain ⟨w4, hw4⟩ : ∃ w4, w3.alloc (.cells #[.int .i64 ta, .int .i64 tb, .int .i64 tc] 27) = w4 := ⟨_, rfl⟩
  rw [hw4, hy] at T0
  rw [hw4, hy]
  clear hw4 hy
  go_wp2_with fail
  go_loopw [7] (fun x wr => ∃ (i : Nat) (t : Tim), i ≤ l.length ∧ x = .int .i64 (i : Int) ∧ TwI C w y g t t wr ∧ InvT t) (fun x _ => l.length - (intOf x).toNat)
  case atStart => exact ⟨0, _, Nat.zero_le _, rfl, T0.out, HI0.out⟩
  case round =>
    obtain ⟨i, t, hi, rfl, hst, hI⟩ := hrel
    have HST := Lib.hid hst
    have HI := Lib.hid hI
    have HII := Lib.hid hi
    have i0 : (0 : Int) ≤ (i : Int) := by omega
    have ib : (i : Int) ≤ 200 := by have := HL.out; omega
    clear hst hi hI
    by_cases hlt : i < l.length
    · have hlt' : (i : Int) < (l.length : Int) := by omega
      have HLT := Lib.hid hlt
      obtain ⟨lb, loff, rfl, _, hat⟩ := opsT_at HV.out i hlt
      have HMO := Lib.hid (memT_at HM.out hlt)
      obtain ⟨o, hO⟩ : ∃ o, l.getD i opT0 = o := ⟨_, rfl⟩
      rw [hO] at hat HMO
      have HAT := Lib.hid hat
      clear hlt hat hO
      have HRD := Lib.hid (fun (wx : World) (hb : Below wr.heap.size wr wx) => And.intro (cells3 (HST.out.box.below hb HST.out.box.lt)) (HAT.out wx (HST.out.below.trans (hb.mono HST.out.below.size))))
      obtain ⟨T', hT'⟩ : ∃ T', (doT t o).1 = T' := ⟨_, rfl⟩
      obtain ⟨R', hR'⟩ : ∃ R', (doT t o).2 = R' := ⟨_, rfl⟩
      have HDE := Lib.hid (show doT t o = (T', R') by rw [← hT', ← hR'])
      have HDO := Lib.hid (fun (wx : World) => rdo15_any t o wx HI.out HMO.out)
      unfold timV at HDO
      rw [hT', hR'] at HDO
      clear hT' hR'
      go_wp2_with fail
      go_cut [8, 9] from 29 to 37 (fun s8 s9 wx => ∃ x, s8 = .pointer (some ⟨x, 0, none⟩) ∧ s9 = .bool R' ∧ Blk wx x 3 (timF T') ∧ Below wr.heap.size wr wx ∧ wr.heap.size ≤ x)
      case first =>
        refine crossE_abs (fun wx => Below wr.heap.size wr wx) 11 [0, 1, 2, 3, 4] 5 9 [(true, 6), (true, 7), (true, 8), (false, 9), (false, 10), (false, 11)] [(false, 5), (true, 6), (true, 7), (true, 8), (false, 10), (false, 11)] (by kernel_rfl) (by kernel_rfl) (fun _ _ d _ _ h => by cases d <;> exact h) fun w5 hs5 => ⟨hs5.below _, ?_⟩
        have Y5 := Lib.hid (show Below wr.heap.size wr w5 from hs5.below _)
        clear hs5
        iterate 5 (refine pre_run _ ?_ rfl rfl ?_ ?_; rotate_left; (focus (intro w' hS; obtain ⟨⟨c0, c1, c2⟩, d0, d1⟩ := HRD.out w' hS; go_simp; exact rfl)); simp only [Act.put, List.setIfInBounds_toArray, List.set_cons_zero, List.set_cons_succ, List.getElem_toArray, List.getElem_cons_zero, List.getElem_cons_succ])
        refine pre_end ⟨?_, ?_⟩
        · refine pe_call (R := fun v w' => v = .tuple #[.agg #[.int .i64 T'.1, .int .i64 T'.2.1, .int .i64 T'.2.2], .bool R'] ∧ Below w5.heap.size w5 w') _ rfl rfl (by go_simp) ((HDO.out w5).mono fun e w' h => ⟨_, h.1, rfl, h.2⟩) (fun v w' h => Y5.out.trans (h.2.mono Y5.out.size)) fun v w6 hr => ?_
          obtain ⟨rfl, hb6⟩ := hr
          have Y6 := Lib.hid (Y5.out.trans (hb6.mono Y5.out.size))
          clear hb6
          simp only [Act.put, List.setIfInBounds_toArray, List.set_cons_zero, List.set_cons_succ, List.getElem_toArray, List.getElem_cons_zero, List.getElem_cons_succ]
          iterate 3 (refine pe_run _ ?_ rfl rfl ?_ ?_; rotate_left; (focus (intro w' hS; go_simp; exact rfl)); simp only [Act.put, List.setIfInBounds_toArray, List.set_cons_zero, List.set_cons_succ, List.getElem_toArray, List.getElem_cons_zero, List.getElem_cons_succ])
          have BA := Lib.hid ((Below.refl w6.heap.size w6).alloc (Nat.le_refl _) (.cells #[.int .i64 0, .int .i64 0, .int .i64 0] 27))
          obtain ⟨x, hx⟩ : ∃ x, w6.heap.size = x := ⟨_, rfl⟩
          have YL := Lib.hid (show wr.heap.size ≤ x by rw [← hx]; exact Y6.out.size)
          have XA := Lib.hid (show Blk (w6.alloc (.cells #[.int .i64 0, .int .i64 0, .int .i64 0] 27)) x 3 (rowL [.int .i64 0, .int .i64 0, .int .i64 0]) from Blk.new' hx.symm (row3_ _ _ _))
          have YA := Lib.hid (Y6.out.trans (BA.out.mono Y6.out.size))
          refine pe_value (w' := w6.alloc (.cells #[.int .i64 0, .int .i64 0, .int .i64 0] 27)) _ (.pointer (some ⟨x, 0, none⟩)) rfl rfl (by rw [← hx]; go_simp) YA.out ?_
          generalize w6.alloc (.cells #[.int .i64 0, .int .i64 0, .int .i64 0] 27) = wa at *
          simp only [Act.put, List.setIfInBounds_toArray, List.set_cons_zero, List.set_cons_succ, List.getElem_toArray, List.getElem_cons_zero, List.getElem_cons_succ]
          clear hx BA
          have XI := Lib.hid XA.out
          have YS := Lib.hid YA.out
          refine pe_storeR (m := 3) (g := timF T') _ rfl rfl rfl rfl rfl (size_tim _) XI.out (fun i hi => rowL3_one _ _ _ i hi) fun w8 hB8 hu8 => ⟨YS.out.trans (hu8.below YL.out), ?_⟩
          have Y8 := Lib.hid (YS.out.trans (hu8.below YL.out))
          have X8 := Lib.hid hB8
          clear hB8 hu8
          simp only [Act.put, List.getElem_toArray, List.getElem_cons_zero, List.getElem_cons_succ]
          refine pe_last _ rfl ?_
          simp only [List.getElem_toArray, List.getElem_cons_zero, List.getElem_cons_succ]
          go_wp2_with fail
          go_meet
          exact ⟨x, rfl, rfl, X8.out, Y8.out, YL.out⟩
        · have BA := Lib.hid ((Below.refl w5.heap.size w5).alloc (Nat.le_refl _) (.cells #[.int .i64 0, .int .i64 0, .int .i64 0] 27))
          obtain ⟨x, hx⟩ : ∃ x, w5.heap.size = x := ⟨_, rfl⟩
          have YL := Lib.hid (show wr.heap.size ≤ x by rw [← hx]; exact Y5.out.size)
          have XA := Lib.hid (show Blk (w5.alloc (.cells #[.int .i64 0, .int .i64 0, .int .i64 0] 27)) x 3 (rowL [.int .i64 0, .int .i64 0, .int .i64 0]) from Blk.new' hx.symm (row3_ _ _ _))
          have YA := Lib.hid (Y5.out.trans (BA.out.mono Y5.out.size))
          refine pe_value (w' := w5.alloc (.cells #[.int .i64 0, .int .i64 0, .int .i64 0] 27)) _ (.pointer (some ⟨x, 0, none⟩)) rfl rfl (by rw [← hx]; go_simp) YA.out ?_
          generalize w5.alloc (.cells #[.int .i64 0, .int .i64 0, .int .i64 0] 27) = wa at *
          simp only [Act.put, List.setIfInBounds_toArray, List.set_cons_zero, List.set_cons_succ, List.getElem_toArray, List.getElem_cons_zero, List.getElem_cons_succ]
          clear hx BA
          refine pe_call (R := fun v w' => v = .tuple #[.agg #[.int .i64 T'.1, .int .i64 T'.2.1, .int .i64 T'.2.2], .bool R'] ∧ Below wa.heap.size wa w') _ rfl rfl (by go_simp) ((HDO.out wa).mono fun e w' h => ⟨_, h.1, rfl, h.2⟩) (fun v w' h => YA.out.trans (h.2.mono YA.out.size)) fun v w6 hr => ?_
          obtain ⟨rfl, hb6⟩ := hr
          have Y6 := Lib.hid (YA.out.trans (hb6.mono YA.out.size))
          have XI := Lib.hid (XA.out.below hb6 XA.out.lt)
          have YS := Lib.hid Y6.out
          clear hb6
          simp only [Act.put, List.setIfInBounds_toArray, List.set_cons_zero, List.set_cons_succ, List.getElem_toArray, List.getElem_cons_zero, List.getElem_cons_succ]
          iterate 3 (refine pe_run _ ?_ rfl rfl ?_ ?_; rotate_left; (focus (intro w' hS; go_simp; exact rfl)); simp only [Act.put, List.setIfInBounds_toArray, List.set_cons_zero, List.set_cons_succ, List.getElem_toArray, List.getElem_cons_zero, List.getElem_cons_succ])
          refine pe_storeR (m := 3) (g := timF T') _ rfl rfl rfl rfl rfl (size_tim _) XI.out (fun i hi => rowL3_one _ _ _ i hi) fun w8 hB8 hu8 => ⟨YS.out.trans (hu8.below YL.out), ?_⟩
          have Y8 := Lib.hid (YS.out.trans (hu8.below YL.out))
          have X8 := Lib.hid hB8
          clear hB8 hu8
          simp only [Act.put, List.getElem_toArray, List.getElem_cons_zero, List.getElem_cons_succ]
          refine pe_last _ rfl ?_
          simp only [List.getElem_toArray, List.getElem_cons_zero, List.getElem_cons_succ]
          go_wp2_with fail
          go_meet
          exact ⟨x, rfl, rfl, X8.out, Y8.out, YL.out⟩
      case rest =>
        obtain ⟨x, rfl, rfl, hx, hb, hxl⟩ := hcut
        have HX := Lib.hid hx
        have HB := Lib.hid hb
        have H7 := Lib.hid (HST.out.on hb)
        clear hx hb hxl
        obtain ⟨e0, e1, e2⟩ := cells3 HX.out
        obtain ⟨f0, f1, f2⟩ := cells3 H7.out.box
        have z0 := H7.out.box.frz 0
        have z1 := H7.out.box.frz 1
        have z2 := H7.out.box.frz 2
        go_upto_region 9 with fail
        obtain ⟨xi, ui⟩ := rset3 H7.out.box (.int .i64 T'.1) (.int .i64 T'.2.1) (.int .i64 T'.2.2)
        have H8 := Lib.hid (H7.out.put (s' := T') ui xi)
        clear xi ui e0 e1 e2 f0 f1 f2 z0 z1 z2
        refine abs_wp (fun wx => TwI C w y g t T' wx) H8.out ?_
        intro w8 h8
        have K8 := Lib.hid h8
        clear h8 H8
        go_wp2_with fail
        refine (tm_view C K8.out.tm HI.out).mono ?_
        rintro e w9 ⟨rfl, hb9⟩
        have K9 := Lib.hid (K8.out.on hb9)
        clear hb9
        have HIV := Lib.hid (show InvT T' by have := inv_do HI.out o; rw [HDE.out] at this; exact this)
        have HRI := Lib.hid (show t.1 ≤ T'.1 by have := do_rises HI.out o; rw [HDE.out] at this; exact this)
        have HOC := Lib.hid (fun (wx : World) (hb : Below w.heap.size w wx) => HAT.out wx hb)
        go_wp2_with fail
        refine plan2_abs (fun wx => Below w.heap.size w wx) [(true, 0), (true, 1), (true, 2), (true, 3), (true, 4), (true, 6), (false, 5)] [(true, 7), (true, 8), (true, 9), (true, 11), (true, 12), (false, 10), (true, 13), (true, 14), (true, 15), (true, 16), (true, 18), (true, 19), (false, 17), (true, 20), (true, 21), (true, 22), (true, 23), (true, 25), (true, 26), (false, 24), (true, 27), (true, 28), (true, 29), (true, 30), (true, 32), (true, 33), (true, 34), (false, 31), (true, 35), (true, 36), (true, 37), (true, 38), (true, 40), (false, 39), (true, 41), (true, 42)] (by kernel_rfl) (by kernel_rfl) (fun _ _ d _ _ h => by cases d <;> exact h) fun w10 hs10 => ⟨(K9.out.on (hs10.below _)).below, ?_⟩
        have K10 := Lib.hid (K9.out.on (hs10.below _))
        clear hs10
        iterate 6 (refine p2_run _ ?_ rfl rfl ?_ ?_; rotate_left; (focus (intro w' hS; obtain ⟨d0, d1⟩ := HOC.out w' hS; go_simp; exact rfl)); simp only [Act.put, List.setIfInBounds_toArray, List.set_cons_zero, List.set_cons_succ, List.getElem_toArray, List.getElem_cons_zero, List.getElem_cons_succ])
        have HCX := Lib.hid (twi_call C w w10 y g t T' o K10.out HI.out HMO.out)
        rw [HDE.out] at HCX
        refine p2_call _ rfl rfl (by go_simp) HCX.out (fun v w' h => h.2.below) fun v w11 hr => ?_
        obtain ⟨rfl, h11⟩ := hr
        have K11 := Lib.hid (show TwI C w y g T' T' w11 from h11)
        clear h11 HCX
        simp only [Act.put, List.setIfInBounds_toArray, List.set_cons_zero, List.set_cons_succ, List.getElem_toArray, List.getElem_cons_zero, List.getElem_cons_succ]
        refine p2_turn (fun wx => TwI C w y g T' T' wx) (fun wx h => h.below) K11.out ?_
        have s1 : (R' != R') = false := by simp
        have s2 : (T'.1 != T'.1) = false := by simp
        have s3 : (T'.2.1 != T'.2.1) = false := by simp
        have s4 : (T'.2.2 != T'.2.2) = false := by simp
        have s5 : (decide ((1000000 : Int) < T'.1) != decide ((1000000 : Int) < T'.1)) = false := by simp
        have s6 : decide (T'.1 < t.1) = false := decide_eq_false (by have := HRI.out; omega)
        iterate 5 (refine pl_run _ ?_ rfl rfl ?_ ?_; rotate_left; (focus (intro w' hS; obtain ⟨c0, c1, c2⟩ := cells3 hS.box; go_simp; exact rfl)); simp only [Act.put, List.setIfInBounds_toArray, List.set_cons_zero, List.set_cons_succ, List.getElem_toArray, List.getElem_cons_zero, List.getElem_cons_succ])
        refine pl_call1 _ rfl rfl (by go_simp) (tm_view C K11.out.tm HIV.out) (fun w' hb => K11.out.on hb) fun v12 hb => ?_
        have K12 := Lib.hid (K11.out.on hb)
        clear hb
        simp only [Act.put, List.setIfInBounds_toArray, List.set_cons_zero, List.set_cons_succ, List.getElem_toArray, List.getElem_cons_zero, List.getElem_cons_succ]
        iterate 6 (refine pl_run _ ?_ rfl rfl ?_ ?_; rotate_left; (focus (intro w' hS; obtain ⟨c0, c1, c2⟩ := cells3 hS.box; go_simp; exact rfl)); simp only [Act.put, List.setIfInBounds_toArray, List.set_cons_zero, List.set_cons_succ, List.getElem_toArray, List.getElem_cons_zero, List.getElem_cons_succ])
        refine pl_call1 _ rfl rfl (by go_simp) (tm_fails C K12.out.tm HIV.out) (fun w' hb => K12.out.on hb) fun v13 hb => ?_
        have K13 := Lib.hid (K12.out.on hb)
        clear hb
        simp only [Act.put, List.setIfInBounds_toArray, List.set_cons_zero, List.set_cons_succ, List.getElem_toArray, List.getElem_cons_zero, List.getElem_cons_succ]
        iterate 6 (refine pl_run _ ?_ rfl rfl ?_ ?_; rotate_left; (focus (intro w' hS; obtain ⟨c0, c1, c2⟩ := cells3 hS.box; go_simp; exact rfl)); simp only [Act.put, List.setIfInBounds_toArray, List.set_cons_zero, List.set_cons_succ, List.getElem_toArray, List.getElem_cons_zero, List.getElem_cons_succ])
        refine pl_call1 _ rfl rfl (by go_simp) (tm_left C K13.out.tm HIV.out) (fun w' hb => K13.out.on hb) fun v14 hb => ?_
        have K14 := Lib.hid (K13.out.on hb)
        clear hb
        simp only [Act.put, List.setIfInBounds_toArray, List.set_cons_zero, List.set_cons_succ, List.getElem_toArray, List.getElem_cons_zero, List.getElem_cons_succ]
        iterate 7 (refine pl_run _ ?_ rfl rfl ?_ ?_; rotate_left; (focus (intro w' hS; obtain ⟨c0, c1, c2⟩ := cells3 hS.box; go_simp; exact rfl)); simp only [Act.put, List.setIfInBounds_toArray, List.set_cons_zero, List.set_cons_succ, List.getElem_toArray, List.getElem_cons_zero, List.getElem_cons_succ])
        refine pl_call1 _ rfl rfl (by go_simp) (tm_halted C K14.out.tm HIV.out) (fun w' hb => K14.out.on hb) fun v15 hb => ?_
        have K15 := Lib.hid (K14.out.on hb)
        clear hb
        simp only [Act.put, List.setIfInBounds_toArray, List.set_cons_zero, List.set_cons_succ, List.getElem_toArray, List.getElem_cons_zero, List.getElem_cons_succ]
        iterate 5 (refine pl_run _ ?_ rfl rfl ?_ ?_; rotate_left; (focus (intro w' hS; obtain ⟨c0, c1, c2⟩ := cells3 hS.box; go_simp; exact rfl)); simp only [Act.put, List.setIfInBounds_toArray, List.set_cons_zero, List.set_cons_succ, List.getElem_toArray, List.getElem_cons_zero, List.getElem_cons_succ])
        refine pl_call1 _ rfl rfl (by go_simp) (tm_view C K15.out.tm HIV.out) (fun w' hb => K15.out.on hb) fun v16 hb => ?_
        have K16 := Lib.hid (K15.out.on hb)
        clear hb
        simp only [Act.put, List.setIfInBounds_toArray, List.set_cons_zero, List.set_cons_succ, List.getElem_toArray, List.getElem_cons_zero, List.getElem_cons_succ]
        iterate 2 (refine pl_run _ ?_ rfl rfl ?_ ?_; rotate_left; (focus (intro w' hS; go_simp; exact rfl)); simp only [Act.put, List.setIfInBounds_toArray, List.set_cons_zero, List.set_cons_succ, List.getElem_toArray, List.getElem_cons_zero, List.getElem_cons_succ])
        refine pl_end ?_
        go_wp2_with fail
        go_roundw
        case rel => exact ⟨i + 1, T', by have := HLT.out; omega, by go_num, K16.out, HIV.out⟩
        case measure => have := HLT.out; simp [intOf]; omega
    · obtain rfl : i = l.length := by have := HII.out; omega
      have hlt' : ¬ (l.length : Int) < (l.length : Int) := by omega
      clear hlt
      go_wp2_with fail
      go_ret
      exact ⟨rfl, HST.out.below⟩
end Go.Proofs.Ytjabihkfflnndaa
end
section
open Go Go.RowKit
namespace TI
/-- behind so many views that failed, and j ticks of the next -/
def ftT (i : Nat) (j : Int) : Tim := ((i : Int) + 1, (i : Int), spanF (i : Int) - (j - 1))
theorem ft_inv {i : Nat} {j : Int} (hi : i ≤ 20) (hj : 1 ≤ j) (h : j ≤ spanF (i : Int)) : InvT (ftT i j) := by
  have := span_bound (i : Int)
  unfold InvT ftT; simp only; omega
theorem ft_tick {i : Nat} {j : Int} (hi : i ≤ 20) (h : j < spanF (i : Int)) : tickT (ftT i j) = (ftT i (j + 1), false) := by
  unfold tickT ftT
  rw [if_neg (by simp only; omega), if_pos (by simp only; omega)]
  simp only [Prod.mk.injEq, and_true, true_and]; omega
theorem ft_last {i : Nat} (hi : i ≤ 20) : tickT (ftT i (spanF (i : Int))) = (ftT (i + 1) 1, true) := by
  unfold tickT ftT
  rw [if_neg (by simp only; omega), if_neg (by simp only; omega)]
  simp only [Prod.mk.injEq, and_true]
  refine ⟨by omega, by omega, ?_⟩
  show spanF ((i : Int) + 1) = spanF (((i + 1 : Nat) : Int)) - (1 - 1)
  rw [show (((i + 1 : Nat) : Int)) = (i : Int) + 1 by omega]; omega
theorem ft_zero : newT 1 = ftT 0 1 := by decide
end TI
namespace Go.Proofs.Ytjabihkfflnndaa
open TI RR FF WW BB
set_option maxRecDepth 100000 in
set_option maxHeartbeats 8000000 in
theorem lawF15 (C : Code15) (n : Nat) (w : World) (hn : n < 256) :
    Calls Try.prog 5 #[.int .u8 (n : Int)] w fun e w' => e = .returned (.bool true) ∧ Below w.heap.size w w' := by
  have HN := Lib.hid hn
  clear hn
  go_enter Try.func5, Try.ntmps5
  go_wp2_with fail
  refine (awake15_any C w).mono ?_
  rintro e w1 ⟨rfl, hb1⟩
  have B1 := Lib.hid hb1
  clear hb1
  obtain ⟨k, hk, hk20⟩ : ∃ k : Nat, (n : Int) % 20 = (k : Int) ∧ k < 20 := ⟨n % 20, by omega, by omega⟩
  have HK := Lib.hid hk20
  have HKE := Lib.hid hk
  clear hk20 hk
  go_wp2_with fail
  rw [HKE.out]
  refine (tm_new C w w1 1 B1.out (by omega)).mono ?_
  rintro e w2 ⟨g, rfl, h2, _⟩
  have H2 := Lib.hid (show TmX C w g (ftT 0 1) w2 from ft_zero ▸ h2)
  clear h2
  go_wp2_with fail
  go_loopw [5] (fun x wr => ∃ i : Nat, i ≤ k ∧ x = .int .i64 (i : Int) ∧ TmX C w g (ftT i 1) wr) (fun x _ => k - (intOf x).toNat)
  case atStart => exact ⟨0, Nat.zero_le _, rfl, H2.out⟩
  case round =>
    obtain ⟨i, hi, rfl, hst⟩ := hrel
    have HST := Lib.hid hst
    have HI := Lib.hid hi
    have i0 : (0 : Int) ≤ (i : Int) := by omega
    have ib : (i : Int) ≤ 20 := by have := HK.out; omega
    clear hst hi
    by_cases hlt : i < k
    · have hlt' : (i : Int) < (k : Int) := by omega
      have HLT := Lib.hid hlt
      have HI20 := Lib.hid (show i ≤ 20 by have := HK.out; omega)
      have HSB := Lib.hid (span_bound (i : Int))
      obtain ⟨S, hS⟩ : ∃ S, spanF (i : Int) = S := ⟨_, rfl⟩
      have HS := Lib.hid hS
      rw [hS] at HSB
      clear hlt hS
      go_wp2_with fail
      go_loopw [6] (fun x wx => ∃ j : Int, 1 ≤ j ∧ j ≤ S ∧ x = .int .i64 j ∧ TmX C w g (ftT i j) wx) (fun x _ => 17 - (intOf x).toNat)
      case atStart => exact ⟨1, by omega, by have := HSB.out; omega, rfl, HST.out⟩
      case round =>
        obtain ⟨j, hj1, hj2, rfl, hst⟩ := hrel
        have HSJ := Lib.hid hst
        have HJ := Lib.hid (And.intro hj1 hj2)
        have HIV := Lib.hid (show InvT (ftT i j) from ft_inv HI20.out hj1 (by rw [HS.out]; exact hj2))
        have jb : j ≤ 16 := by have := HSB.out; omega
        clear hst hj2
        go_wp2_with fail
        refine (C.span wr (i : Int) (by omega)).mono ?_
        rintro e w3 ⟨rfl, hb3⟩
        have H3 := Lib.hid (HSJ.out.on hb3)
        rw [HS.out]
        clear hb3
        by_cases hjt : j < S
        · have HJT := Lib.hid hjt
          have dj : decide (j < S) = true := decide_eq_true hjt
          have HT := Lib.hid (ft_tick (i := i) (j := j) HI20.out (by rw [HS.out]; exact hjt))
          go_wp2_with fail
          refine (tm_tick C H3.out HIV.out).mono ?_
          rw [HT.out]
          rintro e w4 ⟨rfl, h4⟩
          have H4 := Lib.hid (show TmX C w g (ftT i (j + 1)) w4 from h4)
          clear h4
          go_wp2_with fail
          go_roundw
          case rel => exact ⟨j + 1, by have := HJ.out; omega, by have := HJT.out; omega, by go_num, H4.out⟩
          case measure => have := HJ.out; simp [intOf]; omega
        · have dj : decide (j < S) = false := decide_eq_false hjt
          obtain rfl : j = S := by have := HJ.out; omega
          have HT := Lib.hid (show tickT (ftT i j) = (ftT (i + 1) 1, true) by rw [← HS.out]; exact ft_last HI20.out)
          clear hjt
          go_wp2_with fail
          refine (tm_tick C H3.out HIV.out).mono ?_
          rw [HT.out]
          rintro e w4 ⟨rfl, h4⟩
          have H4 := Lib.hid (show TmX C w g (ftT (i + 1) 1) w4 from h4)
          clear h4
          go_wp2_with fail
          go_roundw
          case rel => exact ⟨i + 1, by have := HLT.out; omega, by go_num, H4.out⟩
          case measure => have := HLT.out; simp [intOf]; omega
    · obtain rfl : i = k := by have := HI.out; omega
      have hlt' : ¬ (i : Int) < (i : Int) := by omega
      have HIV := Lib.hid (show InvT (ftT i 1) from ft_inv (by have := HK.out; omega) (by omega) (by have := span_bound (i : Int); omega))
      obtain ⟨S, hS⟩ : ∃ S, spanF (i : Int) = S := ⟨_, rfl⟩
      have HS := Lib.hid hS
      have HSB := Lib.hid (span_bound (i : Int))
      have e1 : (ftT i 1).1 = (i : Int) + 1 := rfl
      have e2 : (ftT i 1).2.1 = (i : Int) := rfl
      have e3 : (ftT i 1).2.2 = S := by show spanF (i : Int) - (1 - 1) = S; rw [hS]; omega
      clear hlt hS
      have s1 : ((i : Int) + 1 == 1 + (i : Int)) = true := by rw [beq_iff_eq]; omega
      have s2 : ((i : Int) == (i : Int)) = true := by simp
      have s3 : (S == S) = true := by simp
      go_wp2_with fail
      refine (tm_view C HST.out HIV.out).mono ?_
      rintro e w3 ⟨rfl, hb3⟩
      have H3 := Lib.hid (HST.out.on hb3)
      rw [e1]
      clear hb3
      go_wp2_with fail
      refine (tm_fails C H3.out HIV.out).mono ?_
      rintro e w4 ⟨rfl, hb4⟩
      have H4 := Lib.hid (H3.out.on hb4)
      rw [e2]
      clear hb4
      go_wp2_with fail
      refine (tm_left C H4.out HIV.out).mono ?_
      rintro e w5 ⟨rfl, hb5⟩
      have H5 := Lib.hid (H4.out.on hb5)
      rw [e3]
      clear hb5
      go_wp2_with fail
      refine (C.span w5 (i : Int) (by omega)).mono ?_
      rintro e w6 ⟨rfl, hb6⟩
      have H6 := Lib.hid (H5.out.on hb6)
      rw [HS.out]
      clear hb6
      go_wp2_with fail
      go_ret
      exact ⟨rfl, H6.out.below⟩
end Go.Proofs.Ytjabihkfflnndaa
end
section
open Go Go.RowKit
namespace Go.Proofs.Ytjabihkfflnndaa
open TI RR FF WW BB
set_option maxRecDepth 100000 in
set_option maxHeartbeats 8000000 in
theorem lawH15 (C : Code15) (l : List OpT) (v : Value) (w : World) (hv : OpsTAt w v l) (hm : MemT15 l) :
    Calls Try.prog 6 #[v] w fun e w' => e = .returned (.bool true) ∧ Below w.heap.size w w' := by
  have HV := Lib.hid hv
  have HM := Lib.hid hm
  obtain ⟨a0, cap, rfl, _⟩ := hv
  have hlm := hm.1
  clear hm
  go_enter Try.func6, Try.ntmps6
  go_wp2_with fail
  refine (awake15_any C w).mono ?_
  rintro e w1 ⟨rfl, hb1⟩
  have B1 := Lib.hid hb1
  clear hb1
  by_cases h100 : (100 : Int) < (l.length : Int)
  · go_wp2_with fail
    refine (awake15_any C w1).mono ?_
    rintro e wz ⟨rfl, hbz⟩
    have BZ := Lib.hid (B1.out.trans (hbz.mono B1.out.size))
    go_wp2_with fail
    go_ret
    exact ⟨rfl, BZ.out⟩
  have HL := Lib.hid (show l.length ≤ 100 by omega)
  have d100 : decide ((100 : Int) < (l.length : Int)) = false := decide_eq_false h100
  clear h100
  go_wp2_with fail
  refine (tm_new C w w1 1099511627776 B1.out (by omega)).mono ?_
  rintro e w2 ⟨g, rfl, h2, _⟩
  have H2 := Lib.hid (show TmX C w g (1000001, 0, 4) w2 from (show newT 1099511627776 = (1000001, 0, 4) by decide) ▸ h2)
  have HI := Lib.hid (show InvT (1000001, 0, 4) by unfold InvT; decide)
  clear h2 d100
  go_wp2_with fail
  refine (tm_halted C H2.out HI.out).mono ?_
  rintro e w3 ⟨rfl, hb3⟩
  have H3 := Lib.hid (H2.out.on hb3)
  rw [show decide ((1000000 : Int) < ((1000001, 0, 4) : Tim).1) = true by decide]
  clear hb3
  go_wp2_with fail
  refine (tm_view C H3.out HI.out).mono ?_
  rintro e w4 ⟨rfl, hb4⟩
  have H4 := Lib.hid (H3.out.on hb4)
  rw [show ((1000001, 0, 4) : Tim).1 = 1000001 from rfl]
  clear hb4
  go_wp2_with fail
  go_loopw [4] (fun x wr => ∃ i : Nat, i ≤ l.length ∧ x = .int .i64 (i : Int) ∧ TmX C w g (1000001, 0, 4) wr) (fun x _ => l.length - (intOf x).toNat)
  case atStart => exact ⟨0, Nat.zero_le _, rfl, H4.out⟩
  case round =>
    obtain ⟨i, hi, rfl, hst⟩ := hrel
    have HST := Lib.hid hst
    have HII := Lib.hid hi
    have i0 : (0 : Int) ≤ (i : Int) := by omega
    have ib : (i : Int) ≤ 100 := by have := HL.out; omega
    clear hst hi
    by_cases hlt : i < l.length
    · have hlt' : (i : Int) < (l.length : Int) := by omega
      have HLT := Lib.hid hlt
      obtain ⟨lb, loff, rfl, _, hat⟩ := opsT_at HV.out i hlt
      obtain ⟨c0, c1⟩ := hat wr HST.out.below
      have HMO := Lib.hid (memT_at HM.out hlt)
      obtain ⟨o, hO⟩ : ∃ o, l.getD i opT0 = o := ⟨_, rfl⟩
      rw [hO] at c0 c1 HMO
      have HC := Lib.hid (call15_any C w wr g (1000001, 0, 4) o HST.out HI.out HMO.out)
      rw [do_halt rfl o] at HC
      clear hlt hat hO
      go_wp2_with fail
      refine HC.out.mono ?_
      rintro e w5 ⟨rfl, h5⟩
      have H5 := Lib.hid h5
      clear h5 c0 c1 HC
      go_wp2_with fail
      go_roundw
      case rel => exact ⟨i + 1, by have := HLT.out; omega, by go_num, H5.out⟩
      case measure => have := HLT.out; simp [intOf]; omega
    · obtain rfl : i = l.length := by have := HII.out; omega
      have hlt' : ¬ (l.length : Int) < (l.length : Int) := by omega
      clear hlt
      go_wp2_with fail
      refine (tm_new C w wr 1000000 HST.out.below (by omega)).mono ?_
      rintro e w5 ⟨x, rfl, h5, hb5⟩
      have X5 := Lib.hid (show TmX C w x (1000000, 0, 4) w5 from (show newT 1000000 = (1000000, 0, 4) by decide) ▸ h5)
      have HX := Lib.hid (show InvT (1000000, 0, 4) by unfold InvT; decide)
      have H5 := Lib.hid (HST.out.on hb5)
      clear h5 hb5
      go_wp2_with fail
      refine (tm_view C H5.out HI.out).mono ?_
      rintro e w6 ⟨rfl, hb6⟩
      have X6 := Lib.hid (X5.out.on hb6)
      rw [show ((1000001, 0, 4) : Tim).1 = 1000001 from rfl]
      clear hb6
      go_wp2_with fail
      refine (tm_halted C X6.out HX.out).mono ?_
      rintro e w7 ⟨rfl, hb7⟩
      have X7 := Lib.hid (X6.out.on hb7)
      rw [show decide ((1000000 : Int) < ((1000000, 0, 4) : Tim).1) = false by decide]
      clear hb7
      go_wp2_with fail
      refine (tm_enter C 1125899906842624 X7.out HX.out (by omega)).mono ?_
      rw [show enterT (1000000, 0, 4) 1125899906842624 = ((1000001, 0, 4), true) by decide]
      rintro e w8 ⟨rfl, h8⟩
      have X8 := Lib.hid (show TmX C w x (1000001, 0, 4) w8 from h8)
      clear h8
      go_wp2_with fail
      refine (tm_halted C X8.out HI.out).mono ?_
      rintro e w9 ⟨rfl, hb9⟩
      have X9 := Lib.hid (X8.out.on hb9)
      rw [show decide ((1000000 : Int) < ((1000001, 0, 4) : Tim).1) = true by decide]
      clear hb9
      go_wp2_with fail
      refine (tm_view C X9.out HI.out).mono ?_
      rintro e w10 ⟨rfl, hb10⟩
      have X10 := Lib.hid (X9.out.on hb10)
      rw [show ((1000001, 0, 4) : Tim).1 = 1000001 from rfl]
      clear hb10
      go_wp2_with fail
      go_ret
      exact ⟨rfl, X10.out.below⟩
end Go.Proofs.Ytjabihkfflnndaa
end
