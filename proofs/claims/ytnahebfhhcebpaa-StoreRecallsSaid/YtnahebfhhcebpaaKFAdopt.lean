/-
  The walk of the reference's adopt: orphans whose parents are there.
-/
import Derived.Test.YtnahebfhhcebpaaKFAt
import Derived.Test.YtnahebfhhcebpaaKPlanE
import Derived.Test.YtnahebfhhcebpaaKERefS
import Derived.Test.YtnahebfhhcebpaaKJUnlike
import Derived.Test.YtnahebfhhcebpaaKPlanT
import Derived.Test.YtnahebfhhcebpaaKJRow
import Derived.Test.YtnahebfhhcebpaaKRBytes
import Derived.Test.YtnahebfhhcebpaaKWFew
import Derived.Deep.RegionHeld3
import Derived.Test.YtnahebfhhcebpaaChecked
section
open Go Go.RowKit
namespace FF
open WW BB
/-- the blocks of A stay as they are -/
structure Keeps (A : Nat → Prop) (w w' : World) : Prop where
  b0 : Below 0 w w'
  block : ∀ b, A b → b < w.heap.size → w'.heap[b]? = w.heap[b]?
theorem Keeps.refl (A : Nat → Prop) (w : World) : Keeps A w w := ⟨Below.refl 0 w, fun _ _ _ => rfl⟩
theorem Keeps.trans {A : Nat → Prop} {w1 w2 w3 : World} (h : Keeps A w1 w2) (k : Keeps A w2 w3) : Keeps A w1 w3 := ⟨h.b0.trans k.b0, fun b hb hl => (k.block b hb (Nat.lt_of_lt_of_le hl h.b0.size)).trans (h.block b hb hl)⟩
theorem Keeps.of {A : Nat → Prop} {w w' : World} (h : Below w.heap.size w w') : Keeps A w w' := ⟨h.mono (Nat.zero_le _), fun b _ hl => h.block b hl⟩
theorem Keeps.upd {A : Nat → Prop} {c : Nat} {w w' : World} (h : Upd c w w') (hA : ∀ b, A b → b ≠ c) : Keeps A w w' := ⟨h.below (Nat.zero_le _), fun b hb _ => h.block b (hA b hb)⟩
theorem Keeps.sub {A A' : Nat → Prop} {w w' : World} (h : Keeps A w w') (hA : ∀ b, A' b → b < w.heap.size → A b) : Keeps A' w w' := ⟨h.b0, fun b hb hl => h.block b (hA b hb hl) hl⟩
theorem Keeps.below {w w' : World} (h : Keeps (fun b => b < w.heap.size) w w') : Below w.heap.size w w' := ⟨h.b0.os, h.b0.tape, h.b0.output, h.b0.size, fun k hk => h.block k hk hk⟩
/-- what is said of a world rests upon the blocks of A -/
def Dep (A : Nat → Prop) (w : World) (P : World → Prop) : Prop := ∀ w', Keeps A w w' → P w'
theorem Dep.now {A : Nat → Prop} {w : World} {P : World → Prop} (h : Dep A w P) : P w := h w (Keeps.refl A w)
theorem Dep.on {A : Nat → Prop} {w w' : World} {P : World → Prop} (h : Dep A w P) (hk : Keeps A w w') : Dep A w' P := fun w2 h2 => h w2 (hk.trans h2)
theorem Dep.more {A A' : Nat → Prop} {w : World} {P : World → Prop} (h : Dep A w P) (hA : ∀ b, A b → b < w.heap.size → A' b) : Dep A' w P := fun w2 h2 => h w2 (h2.sub hA)
/-- the forest F, resting upon the blocks of A -/
def FoD (A : Nat → Prop) (w : World) (F : Fo) (nv ov : Value) : Prop := ∃ N O : List Iv, N.map Prod.fst = F.nodes ∧ O.map Prod.fst = F.orph ∧ Dep A w (fun w' => IvAt w' nv N ∧ IvAt w' ov O)
theorem FoD.now {A : Nat → Prop} {w : World} {F : Fo} {nv ov : Value} (h : FoD A w F nv ov) : FoAt w F nv ov := by
  obtain ⟨N, O, h1, h2, h3⟩ := h
  exact ⟨N, O, h1, h2, h3.now.1, h3.now.2⟩
theorem FoD.on {A : Nat → Prop} {w w' : World} {F : Fo} {nv ov : Value} (h : FoD A w F nv ov) (hk : Keeps A w w') : FoD A w' F nv ov := by
  obtain ⟨N, O, h1, h2, h3⟩ := h
  exact ⟨N, O, h1, h2, h3.on hk⟩
theorem FoD.more {A A' : Nat → Prop} {w : World} {F : Fo} {nv ov : Value} (h : FoD A w F nv ov) (hA : ∀ b, A b → b < w.heap.size → A' b) : FoD A' w F nv ov := by
  obtain ⟨N, O, h1, h2, h3⟩ := h
  exact ⟨N, O, h1, h2, h3.more hA⟩
theorem FoD.cut {A : Nat → Prop} {w : World} {F : Fo} {nv ov : Value} (h : FoD A w F nv ov) : FoD (fun b => A b ∧ b < w.heap.size) w F nv ov := by
  obtain ⟨N, O, h1, h2, h3⟩ := h
  exact ⟨N, O, h1, h2, fun w2 h4 => h3 w2 (h4.sub fun c hc hl => ⟨hc, hl⟩)⟩
theorem fod_of {w : World} {F : Fo} {nv ov : Value} (h : FoAt w F nv ov) : FoD (fun b => b < w.heap.size) w F nv ov := by
  obtain ⟨N, O, h1, h2, h3, h4⟩ := h
  exact ⟨N, O, h1, h2, fun _ hk => ⟨h3.later hk.below, h4.later hk.below⟩⟩
theorem dep_inn {w : World} {x : Iv} (h : InnV w x) : Dep (fun b => b < w.heap.size) w (fun w' => InnV w' x) := fun _ hk => h.later hk.below
/-- a list as a row -/
def rowL (l : List Value) (i : Nat) : Value := l.getD i undef
/-- the call's three boxes: the forest, the item, the result -/
structure PuS (w : World) (g : Nat) (f1 f2 f3 : Nat → Value) (w' : World) : Prop where
  below : Below w.heap.size w w'
  lo : w.heap.size = g
  a : Blk w' g 4 f1
  b : Blk w' (g + 1) 7 f2
  c : Blk w' (g + 1 + 1) 4 f3
theorem PuS.on {w : World} {g : Nat} {f1 f2 f3 : Nat → Value} {w1 w2 : World} (h : PuS w g f1 f2 f3 w1) (hb : Below w1.heap.size w1 w2) : PuS w g f1 f2 f3 w2 :=
  ⟨h.below.trans (hb.mono h.below.size), h.lo, h.a.below hb h.a.lt, h.b.below hb h.b.lt, h.c.below hb h.c.lt⟩
theorem PuS.mk3 (w : World) (cs ds es : List Value) (t u s : TypeId) (h1 : cs.toArray = row 4 (rowL cs)) (h2 : ds.toArray = row 7 (rowL ds)) (h3 : es.toArray = row 4 (rowL es)) : PuS w w.heap.size (rowL cs) (rowL ds) (rowL es) (((w.alloc (.cells cs.toArray t)).alloc (.cells ds.toArray u)).alloc (.cells es.toArray s)) := by
  have b1 := (Below.refl w.heap.size w).alloc (Nat.le_refl _) (.cells cs.toArray t)
  have b2 := b1.alloc b1.size (.cells ds.toArray u)
  have b3 := b2.alloc b2.size (.cells es.toArray s)
  refine ⟨b3, rfl, ((Blk.new' rfl h1).alloc _).alloc _, (Blk.new' (by simp) h2).alloc _, Blk.new' (by simp) h3⟩
theorem run_append_none_any {P : Program} {w : World} (base : Nat) (t ty e : TypeId) (i : TypeInfo) (size : Nat) (ht : P.underlying t = some (.slice e)) (hi : P.info? e = some i)
    (v : Value) (n : Nat) (xs : List Value) (hown : w.ownsRow base e size v n xs) (c : Nat) :
    (Builtin.append_ #[t, t] ty #[v, .slice none 0 c]).run P w = .ok v w := by
  rcases hown.2 with ⟨rfl, rfl⟩ | ⟨g, cap, cur, rfl, _, _, hnc, _⟩
  · simp [Builtin.append_, run_underlying ht, Go.sizeOf, typeInfo, hi, Builtin.lenOf, Builtin.firstCells]
  · simp [Builtin.append_, run_underlying ht, Go.sizeOf, typeInfo, hi, Builtin.lenOf, Builtin.firstCells, hnc, storeCells]
/-- what was in a slice is appended to an empty row of the call's own -/
theorem run_append_arg0 {P : Program} {w : World} (base : Nat) (t ty e : TypeId) (i : TypeInfo) (z : Value) (size bytes : Nat) (ht : P.underlying t = some (.slice e)) (hi : P.info? e = some i) (hz : i.zero = some z)
    (hsize : i.size = size) (hby : i.bytes = bytes) (hzs : z.cells.size = size) (hsz : 0 < size) (b : Nat) (hown : w.ownsRow base e size (.slice (some ⟨b, 0, none⟩) 0 0) 0 []) (a0 : Option Addr) (j c : Nat) (news : List Value) (hl : news.length = j * size)
    (hn : a0 = none → j = 0) (hnews : ∀ a, a0 = some a → ∀ k u, news[k]? = some u → w.cell? (a.add k) = some u) (h1 : ∀ y ∈ news, y.oneCell' = true)
    (h63 : j ≤ maxLen) (hbytes : j * bytes ≤ 140737488355328) (hbase : base ≤ w.heap.size) :
    ∃ v' w', (Builtin.append_ #[t, t] ty #[.slice (some ⟨b, 0, none⟩) 0 0, .slice a0 j c]).run P w = .ok v' w' ∧ w'.ownsRow base e size v' j news ∧ w.grownBy w' (some b) ∧ ∀ c, v'.ownBlock = some c → c = b ∨ w.heap.size ≤ c := by
  rcases a0 with _ | a
  · obtain rfl := hn rfl
    have hn : news = [] := List.eq_nil_of_length_eq_zero (by simpa using hl)
    subst hn
    exact ⟨_, w, run_append_none_any (P := P) (w := w) base t ty e i size ht hi _ 0 [] hown c, hown, ⟨rfl, rfl, rfl, Nat.le_refl _, fun _ _ _ => rfl⟩, fun c' hc => by
      have hc : some b = some c' := hc
      injection hc with hc
      exact Or.inl hc.symm⟩
  · obtain ⟨v', w', hr, ho, hg, _⟩ := run_append_own (P := P) w base t ty e i z size bytes ht hi hz hsize hby hzs hsz _ 0 [] hown a j c news hl (hnews a rfl) h1 (by simpa using h63) (by simpa using hbytes) hbase
    refine ⟨v', w', hr, by simpa using ho, hg, fun c' hc => ?_⟩
    by_cases hj : j = 0
    · subst hj
      have hn : news = [] := List.eq_nil_of_length_eq_zero (by simpa using hl)
      subst hn
      obtain ⟨cur', hh⟩ : ∃ cur', w.heap[b]? = some (.cells cur' e (0, 0)) := by
        rcases hown.2 with ⟨h, _⟩ | ⟨g', cap', cur', h, _, hh, _⟩
        · cases h
        · injection h with h _ _; injection h with h; injection h with h; subst h; exact ⟨cur', hh⟩
      have h2 := run_append_room (P := P) w t ty e i ht hi b 0 0 cur' hh a 0 c [] (by simp) (by simp) (by simp) (by omega) (by simp)
      rw [hr] at h2
      injection h2 with h2 _
      subst h2
      have hc : some b = some c' := hc
      injection hc with hc
      exact Or.inl hc.symm
    · have h2 := run_append_grow (P := P) w t ty e i z ht hi hz ⟨b, 0, none⟩ 0 0 [] (by simp) (by simp) a j c news (by rw [hsize]; exact hl) (hnews a rfl) (by omega) (by unfold maxLen at h63; omega) (growslice_fits (by omega) (by rw [hby]; simpa using hbytes))
      rw [hr] at h2
      injection h2 with h2 _
      subst h2
      have hc : some w.heap.size = some c' := hc
      injection hc with hc
      exact Or.inr (by omega)
/-- four cells are written -/
theorem set4 {w : World} {a : Nat} {f : Nat → Value} (h : Blk w a 4 f) (u0 u1 u2 u3 : Value) :
    ((((((w.setCell ⟨a, 0, none⟩ u0).setCell ⟨a, 1, none⟩ u1).setCell ⟨a, 2, none⟩ u2).setCell ⟨a, 3, none⟩ u3).cell? ⟨a, 0, none⟩ = some u0 ∧ ((((w.setCell ⟨a, 0, none⟩ u0).setCell ⟨a, 1, none⟩ u1).setCell ⟨a, 2, none⟩ u2).setCell ⟨a, 3, none⟩ u3).cell? ⟨a, 1, none⟩ = some u1 ∧
      ((((w.setCell ⟨a, 0, none⟩ u0).setCell ⟨a, 1, none⟩ u1).setCell ⟨a, 2, none⟩ u2).setCell ⟨a, 3, none⟩ u3).cell? ⟨a, 2, none⟩ = some u2 ∧ ((((w.setCell ⟨a, 0, none⟩ u0).setCell ⟨a, 1, none⟩ u1).setCell ⟨a, 2, none⟩ u2).setCell ⟨a, 3, none⟩ u3).cell? ⟨a, 3, none⟩ = some u3)) ∧
    Upd a w ((((w.setCell ⟨a, 0, none⟩ u0).setCell ⟨a, 1, none⟩ u1).setCell ⟨a, 2, none⟩ u2).setCell ⟨a, 3, none⟩ u3) := by
  have k := ((((h.set 0 u0).set 1 u1).set 2 u2).set 3 u3)
  exact ⟨⟨k.get 0 (by omega), k.get 1 (by omega), k.get 2 (by omega), k.get 3 (by omega)⟩, ((((Upd.refl a w).trans (Upd.set _ _ _ _)).trans (Upd.set _ _ _ _)).trans (Upd.set _ _ _ _)).trans (Upd.set _ _ _ _)⟩
/-- the cells of a slice of items, one behind the other -/
theorem iv_flat {w w' : World} {a0 : Option Addr} {n c : Nat} {L : List Iv} (h : IvAt w (.slice a0 n c) L) (hb : Below w.heap.size w w') : ∀ a, a0 = some a → ∀ k u, (cellsV L)[k]? = some u → w'.cell? (a.add k) = some u := by
  intro a ha k u hu
  obtain ⟨a1, c1, he, h | ⟨b, off, h1, hl, hc⟩⟩ := h
  · subst h; simp [cellsV] at hu
  · injection he with e1 _ _
    rw [ha, h1] at e1
    injection e1 with e1
    subst e1
    have hk : k < L.length * 7 := by rw [← cellsV_len]; exact (List.getElem?_eq_some_iff.1 hu).1
    have hi : k / 7 < L.length := by omega
    have hj : k % 7 < (encV (L.getD (k / 7) v0)).length := by show k % 7 < 7; omega
    have h2 := cellsV_at L (k / 7) (k % 7) _ hi (List.getElem?_eq_getElem hj)
    rw [show k / 7 * 7 + k % 7 = k by omega, hu] at h2
    injection h2 with h2
    have h3 := (hc (k / 7) hi).1 (k % 7) _ (List.getElem?_eq_getElem hj)
    rw [← h2, show off + k / 7 * 7 + k % 7 = off + k by omega] at h3
    rw [Addr.add_lit]
    exact (hb.cell (p := ⟨b, off + k, none⟩) hl).trans h3
theorem iv_none {w : World} {a0 : Option Addr} {n c : Nat} {L : List Iv} (h : IvAt w (.slice a0 n c) L) (h0 : a0 = none) : n = 0 := by
  obtain ⟨a1, c1, he, h | ⟨b, off, h1, _⟩⟩ := h
  · subst h; injection he
  · injection he with e1 _ _
    rw [h0, h1] at e1
    cases e1
end FF
namespace Go.Proofs.Ytnahebfhhcebpaa
open FF JJ CC WW BB
end Go.Proofs.Ytnahebfhhcebpaa
end
section
open Go Go.RowKit
namespace RR
open FF BB
theorem row2_ (a b : Value) : (#[a, b] : Array Value) = row 2 (rowL [a, b]) := rfl
theorem row3_ (a b c : Value) : (#[a, b, c] : Array Value) = row 3 (rowL [a, b, c]) := rfl
theorem row4_ (a b c d : Value) : (#[a, b, c, d] : Array Value) = row 4 (rowL [a, b, c, d]) := rfl
theorem row6_ (a b c d e f : Value) : (#[a, b, c, d, e, f] : Array Value) = row 6 (rowL [a, b, c, d, e, f]) := rfl
theorem rset2 {w : World} {a : Nat} {f : Nat → Value} (h : Blk w a 2 f) (u0 u1 : Value) :
    Blk ((w.setCell ⟨a, 0, none⟩ u0).setCell ⟨a, 1, none⟩ u1) a 2 (rowL [u0, u1]) ∧ Upd a w ((w.setCell ⟨a, 0, none⟩ u0).setCell ⟨a, 1, none⟩ u1) := by
  refine ⟨((h.set 0 u0).set 1 u1).congr _ fun i hi => ?_, ((Upd.refl a w).trans (Upd.set _ _ _ _)).trans (Upd.set _ _ _ _)⟩
  match i, hi with
  | 0, _ => rfl
  | 1, _ => rfl
theorem rset3 {w : World} {a : Nat} {f : Nat → Value} (h : Blk w a 3 f) (u0 u1 u2 : Value) :
    Blk (((w.setCell ⟨a, 0, none⟩ u0).setCell ⟨a, 1, none⟩ u1).setCell ⟨a, 2, none⟩ u2) a 3 (rowL [u0, u1, u2]) ∧ Upd a w (((w.setCell ⟨a, 0, none⟩ u0).setCell ⟨a, 1, none⟩ u1).setCell ⟨a, 2, none⟩ u2) := by
  refine ⟨(((h.set 0 u0).set 1 u1).set 2 u2).congr _ fun i hi => ?_, (((Upd.refl a w).trans (Upd.set _ _ _ _)).trans (Upd.set _ _ _ _)).trans (Upd.set _ _ _ _)⟩
  match i, hi with
  | 0, _ => rfl
  | 1, _ => rfl
  | 2, _ => rfl
theorem rset6 {w : World} {a : Nat} {f : Nat → Value} (h : Blk w a 6 f) (u0 u1 u2 u3 u4 u5 : Value) :
    Blk ((((((w.setCell ⟨a, 0, none⟩ u0).setCell ⟨a, 1, none⟩ u1).setCell ⟨a, 2, none⟩ u2).setCell ⟨a, 3, none⟩ u3).setCell ⟨a, 4, none⟩ u4).setCell ⟨a, 5, none⟩ u5) a 6 (rowL [u0, u1, u2, u3, u4, u5]) ∧
    Upd a w ((((((w.setCell ⟨a, 0, none⟩ u0).setCell ⟨a, 1, none⟩ u1).setCell ⟨a, 2, none⟩ u2).setCell ⟨a, 3, none⟩ u3).setCell ⟨a, 4, none⟩ u4).setCell ⟨a, 5, none⟩ u5) := by
  refine ⟨((((((h.set 0 u0).set 1 u1).set 2 u2).set 3 u3).set 4 u4).set 5 u5).congr _ fun i hi => ?_, ((((((Upd.refl a w).trans (Upd.set _ _ _ _)).trans (Upd.set _ _ _ _)).trans (Upd.set _ _ _ _)).trans (Upd.set _ _ _ _)).trans (Upd.set _ _ _ _)).trans (Upd.set _ _ _ _)⟩
  match i, hi with
  | 0, _ => rfl
  | 1, _ => rfl
  | 2, _ => rfl
  | 3, _ => rfl
  | 4, _ => rfl
  | 5, _ => rfl
theorem cells2 {w : World} {b : Nat} {x y : Value} (h : Blk w b 2 (rowL [x, y])) : w.cell? ⟨b, 0, none⟩ = some x ∧ w.cell? ⟨b, 1, none⟩ = some y := ⟨h.get 0 (by omega), h.get 1 (by omega)⟩
theorem cells3 {w : World} {b : Nat} {x y z : Value} (h : Blk w b 3 (rowL [x, y, z])) : w.cell? ⟨b, 0, none⟩ = some x ∧ w.cell? ⟨b, 1, none⟩ = some y ∧ w.cell? ⟨b, 2, none⟩ = some z := ⟨h.get 0 (by omega), h.get 1 (by omega), h.get 2 (by omega)⟩
theorem cells4 {w : World} {b : Nat} {x y z u : Value} (h : Blk w b 4 (rowL [x, y, z, u])) : w.cell? ⟨b, 0, none⟩ = some x ∧ w.cell? ⟨b, 1, none⟩ = some y ∧ w.cell? ⟨b, 2, none⟩ = some z ∧ w.cell? ⟨b, 3, none⟩ = some u := ⟨h.get 0 (by omega), h.get 1 (by omega), h.get 2 (by omega), h.get 3 (by omega)⟩
theorem cells6 {w : World} {b : Nat} {x y z u v t : Value} (h : Blk w b 6 (rowL [x, y, z, u, v, t])) : w.cell? ⟨b, 0, none⟩ = some x ∧ w.cell? ⟨b, 1, none⟩ = some y ∧ w.cell? ⟨b, 2, none⟩ = some z ∧ w.cell? ⟨b, 3, none⟩ = some u ∧ w.cell? ⟨b, 4, none⟩ = some v ∧ w.cell? ⟨b, 5, none⟩ = some t :=
  ⟨h.get 0 (by omega), h.get 1 (by omega), h.get 2 (by omega), h.get 3 (by omega), h.get 4 (by omega), h.get 5 (by omega)⟩
end RR
namespace BB
/-- a store in a plan -/
theorem pl_store {P : Program} {ops : Array Oper} {S : World → Prop} {Q : Exit → Act → World → Prop} {i : Nat} {r : List (Bool × Nat)} {a : Act} {w w' : World} (o : Oper) (ho : ops[i]? = some o) (hg : o.guard = none) (h : (execOp a.eval o).run P w = .ok .skip w') (hS : S w') (hK : wpPlan P ops Q S r (a.put o.dst undef) w') : wpPlan P ops Q S ((false, i) :: r) a w := by
  show wpOp P ops Q i _ a w
  unfold wpOp; simp only [ho, Region.wanted, hg, if_true]
  left; unfold Oper.wp; rw [h]; exact ⟨hS, hK⟩
theorem pe_store {P : Program} {ops : Array Oper} {S : World → Prop} {Q : Exit → Act → World → Prop} {t i : Nat} {r : List (Bool × Nat)} {a : Act} {w w' : World} (o : Oper) (ho : ops[i]? = some o) (hg : o.guard = none) (h : (execOp a.eval o).run P w = .ok .skip w') (hS : S w') (hK : wpPlanE P ops Q S t r (a.put o.dst undef) w') : wpPlanE P ops Q S t ((false, i) :: r) a w := by
  show wpOp P ops Q i _ a w
  unfold wpOp; simp only [ho, Region.wanted, hg, if_true]
  left; unfold Oper.wp; rw [h]; exact ⟨fun _ => hS, hK⟩
end BB
end
section
open Go Go.RowKit
namespace SS
open WW BB FF
/-- how many of the waiting bytes a crash keeps -/
def keepN (n : Int) (k : Nat) : Nat := (n % ((k : Int) + 1)).toNat
theorem keepN_le (n : Int) (k : Nat) : keepN n k ≤ k := by
  unfold keepN
  have h1 := Int.emod_nonneg n (show ((k : Int) + 1) ≠ 0 by omega)
  have h2 := Int.emod_lt_of_pos n (show (0 : Int) < (k : Int) + 1 by omega)
  omega
theorem keepN_code (n : Int) (k : Nat) : ((n.tmod ((k : Int) + 1)) + ((k : Int) + 1)).tmod ((k : Int) + 1) = (keepN n k : Int) := by
  have h0 : ((k : Int) + 1) ≠ 0 := by omega
  have h1 := Int.emod_nonneg n h0
  have h2 := Int.emod_lt_of_pos n (show (0 : Int) < (k : Int) + 1 by omega)
  have h3 : -((k : Int) + 1) < n.tmod ((k : Int) + 1) := by
    have := Int.lt_tmod_of_pos n (show (0 : Int) < (k : Int) + 1 by omega)
    exact this
  rw [Int.tmod_eq_emod_of_nonneg (by omega), Int.add_emod_right]
  unfold keepN
  rw [Int.toNat_of_nonneg h1]
  rw [Int.tmod_eq_emod]
  split
  · rw [show (((0 : Nat) : Int)) = 0 from rfl, Int.sub_zero, Int.emod_emod]
  · rw [show ((((k : Int) + 1).natAbs : Nat) : Int) = (k : Int) + 1 by omega, Int.sub_emod, Int.emod_self, Int.sub_zero, Int.emod_emod, Int.emod_emod]
def cutL (s : Lg) : Lg :=
  let all := s.safe ++ s.wait
  let e := (splitS all).2
  { s with safe := all.extract 0 (min e s.safe.size), wait := all.extract (min e s.safe.size) e }
def crashL (s : Lg) (n : Int) : Lg := ⟨s.safe ++ s.wait.extract 0 (keepN n s.wait.size), ⟨#[]⟩, -1, false⟩
def fuseL (s : Lg) (n : Int) : Lg := if s.gone = true then s else { s with fuse := max n (-1) }
/-- a call that counts against the fuse, done -/
def burnL (s : Lg) : Lg := if 0 < s.fuse then { s with fuse := s.fuse - 1 } else s
def appendL (s : Lg) (b : ByteArray) : Lg × Int :=
  if s.gone = true then (s, 8) else if b.size = 0 ∨ 4000 < b.size then (s, 1) else if s.fuse = 0 then ({ s with gone := true }, 8) else ({ burnL s with wait := s.wait ++ txt b }, 0)
def syncL (s : Lg) : Lg × Int :=
  if s.gone = true then (s, 8) else if s.fuse = 0 then ({ s with gone := true }, 8) else ({ burnL s with safe := s.safe ++ s.wait, wait := ⟨#[]⟩ }, 0)
def cutA (s : Lg) : Lg × Int := if s.gone = true then (s, 8) else (cutL s, 0)
def doL (s : Lg) (k : Nat) (b : ByteArray) (n : Int) : Lg × Int :=
  match k with
  | 0 => appendL s b
  | 1 => syncL s
  | 2 => (fuseL s n, 0)
  | 3 => (crashL s n, 0)
  | _ => cutA s
def lgRow (s : Lg) : Nat → Value := rowL [.string s.safe, .string s.wait, .int .i64 s.fuse, .bool s.gone]
theorem burn_same (s : Lg) : (burnL s).safe = s.safe ∧ (burnL s).wait = s.wait ∧ (burnL s).gone = s.gone := by
  unfold burnL; split <;> exact ⟨rfl, rfl, rfl⟩
def sizeL (s : Lg) : Nat := s.safe.size + s.wait.size
theorem do_size (s : Lg) (k : Nat) (b : ByteArray) (n : Int) : sizeL (doL s k b n).1 ≤ sizeL s + 4004 := by
  obtain ⟨h1, h2, _⟩ := burn_same s
  have hk := keepN_le n s.wait.size
  match k with
  | 0 =>
    show sizeL (appendL s b).1 ≤ _
    unfold appendL
    split
    · show sizeL s ≤ _; omega
    · split
      · show sizeL s ≤ _; omega
      · split
        · show sizeL s ≤ _; omega
        · show (burnL s).safe.size + (s.wait ++ txt b).size ≤ s.safe.size + s.wait.size + 4004
          rw [h1, ByteArray.size_append, txt_size]; omega
  | 1 =>
    show sizeL (syncL s).1 ≤ _
    unfold syncL
    split
    · show sizeL s ≤ _; omega
    · split
      · show sizeL s ≤ _; omega
      · show (s.safe ++ s.wait).size + (⟨#[]⟩ : ByteArray).size ≤ s.safe.size + s.wait.size + 4004
        rw [ByteArray.size_append, show (⟨#[]⟩ : ByteArray).size = 0 from rfl]; omega
  | 2 =>
    show sizeL (fuseL s n) ≤ _
    unfold fuseL
    split
    · omega
    · show sizeL s ≤ _; omega
  | 3 =>
    show (s.safe ++ s.wait.extract 0 (keepN n s.wait.size)).size + (⟨#[]⟩ : ByteArray).size ≤ s.safe.size + s.wait.size + 4004
    rw [ByteArray.size_append, ByteArray.size_extract, show (⟨#[]⟩ : ByteArray).size = 0 from rfl]; omega
  | m + 4 =>
    show sizeL (cutA s).1 ≤ _
    unfold cutA
    split
    · show sizeL s ≤ _; omega
    · show ((s.safe ++ s.wait).extract 0 _).size + ((s.safe ++ s.wait).extract _ _).size ≤ s.safe.size + s.wait.size + 4004
      have he := (split_end _ (s.safe ++ s.wait) (Nat.lt_succ_self _)).1
      rw [ByteArray.size_append] at he
      rw [ByteArray.size_extract, ByteArray.size_extract, ByteArray.size_append]; omega
end SS
end
section
open Go Go.RowKit
namespace Go.Proofs.Ytnahebfhhcebpaa
open RR FF WW BB
set_option maxRecDepth 100000 in
set_option maxHeartbeats 2000000 in
theorem bytes_any (v l : Int) (w : World) : Calls Try.prog 36 #[.agg #[.int .i64 v, .int .i64 l]] w fun e w' => e = .returned (.string (bytesS v l)) ∧ Below w.heap.size w w' := by
  have h1 : ¬ 9223372036854775807 < (num v).size + (num l).size := by rw [num_size, num_size]; omega
  have h2 : (num v).size + (num l).size ≤ 9223372036854775807 := by rw [num_size, num_size]; omega
  have H1 := Lib.hid h1
  clear h2
  go_enter Try.func36, Try.ntmps36
  go_wp2_with fail
  have c0 := cell_new w #[.int .i64 v, .int .i64 l] 26 0 _ rfl
  have c1 := cell_new w #[.int .i64 v, .int .i64 l] 26 1 _ rfl
  have b0 : Below w.heap.size w (w.alloc (.cells #[.int .i64 v, .int .i64 l] 26)) := (Below.refl _ _).alloc (Nat.le_refl _) _
  generalize w.alloc (.cells #[.int .i64 v, .int .i64 l] 26) = w0 at *
  have z0 := b0.size
  obtain ⟨g, hg⟩ : ∃ g, w.heap.size = g := ⟨_, rfl⟩
  rw [hg] at c0 c1 b0 z0 ⊢
  have HG := Lib.hid hg
  clear hg
  have hst : w0.drew.cell? ⟨g, 0, none⟩ = some (.int .i64 v) ∧ w0.drew.cell? ⟨g, 1, none⟩ = some (.int .i64 l) ∧ Below g w w0.drew ∧ g ≤ w0.drew.heap.size := ⟨c0, c1, b0.drew, z0⟩
  go_region_held3 (fun w' => w'.cell? ⟨g, 0, none⟩ = some (.int .i64 v) ∧ w'.cell? ⟨g, 1, none⟩ = some (.int .i64 l) ∧ Below g w w' ∧ g ≤ w'.heap.size)
    (first | exact hst | exact hk)
    (first
      | (go_at_call 51; refine (number_any _ _).mono ?_; rintro e w1 ⟨rfl, hb1⟩; have hk := keep2 (w := w) (g := g) (v0 := .int .i64 v) (v1 := .int .i64 l) (B := g) (by assumption) hb1))
  go_wp2_with fail
  go_ret
  exact ⟨rfl, by rw [HG.out]; exact hk.2.2.1⟩
end Go.Proofs.Ytnahebfhhcebpaa
end
section
open Go Go.RowKit
namespace RR
open WW BB
def nearI (n : Int) : Int := min (max n 0) 1000000
/-- what the first k bytes tell -/
def hn (b : ByteArray) : Nat → Nat
  | 0 => 0
  | k + 1 => hn b k * 256 + (b.data.toList.getD k 0).toNat
theorem hn_lt (b : ByteArray) : ∀ k, hn b k < 256 ^ k
  | 0 => by show 0 < 1; omega
  | k + 1 => by
    have h := hn_lt b k
    have h1 := UInt8.toNat_lt (b.data.toList.getD k 0)
    show hn b k * 256 + (b.data.toList.getD k 0).toNat < 256 ^ k * 256
    omega
theorem hn_four (b : ByteArray) : hn b 4 = rd4 b := by
  unfold rd4
  simp only [hn]
  omega
theorem hn_step (b : ByteArray) (k : Nat) (hk : k < 4) (hb : k < b.size) : bits .or .u32 (IntKind.u32.wrap ((hn b k : Int) * 256)) (IntKind.u32.wrap (b[k].toNat : Int)) = (hn b (k + 1) : Int) := by
  have h := hn_lt b k
  have h3 : 256 ^ k ≤ 256 ^ 3 := Nat.pow_le_pow_right (by omega) (by omega)
  have h4 : hn b k < 16777216 := Nat.lt_of_lt_of_le h (by simpa using h3)
  have h1 := UInt8.toNat_lt (b.data.toList.getD k 0)
  rw [get_byte]
  have e1 : IntKind.u32.wrap ((hn b k : Int) * 256) = ((hn b k * 256 : Nat) : Int) := by rw [IntKind.wrap_u32']; omega
  have e2 : IntKind.u32.wrap ((b.data.toList.getD k 0).toNat : Int) = ((b.data.toList.getD k 0).toNat : Int) := by rw [IntKind.wrap_u32']; omega
  rw [e1, e2, or_u32 _ _ (by omega) (by omega)]
  show _ = ((hn b k * 256 + (b.data.toList.getD k 0).toNat : Nat) : Int)
  rw [show hn b k * 256 = 2 ^ 8 * hn b k by omega, ← Nat.two_pow_add_eq_or_of_lt (by omega)]
end RR
namespace Go.Proofs.Ytnahebfhhcebpaa
open RR FF WW BB
set_option maxRecDepth 100000 in
theorem near_is (n x : Int) (hx : nearI n = x) (w : World) : Calls Try.prog 58 #[.int .i64 n] w fun e w' => e = .returned (.int .i64 x) ∧ w' = w := by
  subst hx
  go_enter Try.func58, Try.ntmps58
  go_wp2_with fail
  go_ret
  exact ⟨rfl, rfl⟩
set_option maxRecDepth 100000 in
set_option maxHeartbeats 1000000 in
theorem rnum_is (b : ByteArray) (x : Nat) (hb : b.size = 4) (hx : rd4 b = x) (w : World) : Calls Try.prog 42 #[.string b] w fun e w' => e = .returned (.int .i64 (x : Int)) ∧ w' = w := by
  have HB := Lib.hid hb
  have HX := Lib.hid hx
  have HX2 := Lib.hid (show wrap64 (x : Int) = (x : Int) by have h := rd4_lt b; exact IntWalk.wrap64_in _ (by omega))
  clear hb hx
  go_enter Try.func42, Try.ntmps42
  go_wp2_with fail
  go_loop [3, 5] (fun n i => ∃ k : Nat, k ≤ 4 ∧ i = .int .i64 (k : Int) ∧ n = .int .u32 (hn b k : Int)) (fun _ i => 4 - (intOf i).toNat)
  case atStart => exact ⟨0, by omega, rfl, rfl⟩
  case round =>
    obtain ⟨k, hk, rfl, rfl⟩ := hrel
    by_cases hlt : k < 4
    · have h1 : k < b.size := by rw [HB.out]; exact hlt
      have h2 : (k : Int) < 4 := by omega
      have h3 : (0 : Int) ≤ (k : Int) := by omega
      have h4 : (k : Int) < (b.size : Int) := by omega
      have E := Lib.hid (show bits .or .u32 ((hn b k : Int) * 256 % 4294967296) ((b[k].toNat : Int) % 4294967296) = (hn b (k + 1) : Int) by rw [← IntKind.wrap_u32', ← IntKind.wrap_u32']; exact hn_step b k hlt h1)
      have HLT := Lib.hid hlt
      clear hk
      go_wp2_with fail
      go_round
      case rel => exact ⟨k + 1, by have := HLT.out; omega, by go_num, by rw [E.out]⟩
      case measure => have := HLT.out; simp [intOf]; omega
    · obtain rfl : k = 4 := by omega
      have h2 : ¬ ((4 : Nat) : Int) < 4 := by omega
      have E := Lib.hid (show hn b 4 = x by rw [hn_four]; exact HX.out)
      go_wp2_with fail
      go_ret
      refine ⟨?_, rfl⟩
      show Ending.returned (.int .i64 (wrap64 (hn b 4 : Int))) = _
      rw [E.out, HX2.out]
set_option maxRecDepth 100000 in
set_option maxHeartbeats 2000000 in
theorem bounded_is (a b x y : Int) (hx : nearI a = x) (hy : nearI b = y) (w : World) : Calls Try.prog 43 #[.agg #[.int .i64 a, .int .i64 b]] w fun e w' => e = .returned (.agg #[.int .i64 x, .int .i64 y]) ∧ Below w.heap.size w w' := by
  have HX := Lib.hid hx
  have HY := Lib.hid hy
  have X2 := Lib.hid (((Below.refl w.heap.size w).alloc (Nat.le_refl _) (.cells #[.int .i64 a, .int .i64 b] 26)).alloc (by simp) (.cells #[.int .i64 0, .int .i64 0] 26))
  have R0 := Lib.hid (show Blk ((w.alloc (.cells #[.int .i64 a, .int .i64 b] 26)).alloc (.cells #[.int .i64 0, .int .i64 0] 26)) w.heap.size 2 (rowL [.int .i64 a, .int .i64 b]) from (Blk.new' rfl (row2_ _ _)).alloc _)
  have R1 := Lib.hid (show Blk ((w.alloc (.cells #[.int .i64 a, .int .i64 b] 26)).alloc (.cells #[.int .i64 0, .int .i64 0] 26)) (w.heap.size + 1) 2 (rowL [.int .i64 0, .int .i64 0]) from Blk.new' (by simp) (row2_ _ _))
  clear hx hy
  go_enter Try.func43, Try.ntmps43
  go_wp2_with fail
  obtain ⟨w0, hw0⟩ : ∃ w0, (w.alloc (.cells #[.int .i64 a, .int .i64 b] 26)).alloc (.cells #[.int .i64 0, .int .i64 0] 26) = w0 := ⟨_, rfl⟩
  rw [hw0] at X2 R0 R1
  rw [hw0]
  clear hw0
  refine tail_abs 7 (by kernel_rfl) (by kernel_rfl) fun w2 hs2 => ?_
  have Y2 := Lib.hid (X2.out.trans (hs2.below _))
  have S1 := Lib.hid (R1.out.same hs2)
  obtain ⟨c0, c1⟩ := cells2 (R0.out.same hs2)
  clear hs2
  simp only [List.take_succ_cons, List.take_zero, List.drop_succ_cons, List.drop_zero]
  iterate 2 still_step
  still_call (near_is a x HX.out w2)
  iterate 2 still_step
  still_call (near_is b y HY.out w2)
  iterate 1 still_step
  refine wpStill_nil ?_
  obtain ⟨e0, e1⟩ := cells2 S1.out
  have f0 := S1.out.frz 0
  have f1 := S1.out.frz 1
  go_wp2_with fail
  obtain ⟨xi, ui⟩ := rset2 S1.out (.int .i64 x) (.int .i64 y)
  obtain ⟨p0, p1⟩ := cells2 xi
  refine bodyPost_ret (v := .agg #[.int .i64 x, .int .i64 y]) (by simp [results, Try.results43, go_sem, p0, p1]) rfl ⟨rfl, ?_⟩
  exact Y2.out.trans (ui.below (by omega))
end Go.Proofs.Ytnahebfhhcebpaa
end
section
open Go Go.RowKit
namespace RR
open WW BB
/-- what is answered of the state that is read, or of none -/
def ansR (o : Option (Int × Int)) : Int × Int × Int := match o with | some s => (s.1, s.2, 0) | none => (0, 0, 2)
theorem take_size {b : ByteArray} (h : b.size = 8) : (b.extract 0 4).size = 4 ∧ (b.extract 4 b.size).size = 4 := by
  rw [ByteArray.size_extract, ByteArray.size_extract]; omega
theorem near_in {n : Int} (h : 0 ≤ n ∧ n ≤ 1000000) : nearI n = n := by unfold nearI; omega
theorem near_out {n : Int} (h : 1000000 < n) : nearI n = 1000000 := by unfold nearI; omega
end RR
namespace Go.Proofs.Ytnahebfhhcebpaa
open RR FF WW BB
set_option maxRecDepth 100000 in
set_option maxHeartbeats 2000000 in
theorem read_short (b : ByteArray) (h8 : b.size ≠ 8) (w : World) : Calls Try.prog 30 #[.string b] w fun e w' => e = .returned (.tuple #[.agg #[.int .i64 0, .int .i64 0], .int .i64 2]) ∧ Below w.heap.size w w' := by
  have t1 : ((b.size : Int) == 8) = false := by rw [beq_eq_false_iff_ne]; omega
  have t2 : ¬ (b.size : Int) = 8 := by omega
  clear h8
  go_enter Try.func30, Try.ntmps30
  go_wp2_with fail
  refine bodyPost_ret (v := .tuple #[.agg #[.int .i64 0, .int .i64 0], .int .i64 2]) (by simp [results, Try.results30, go_sem]) rfl ⟨rfl, ?_⟩
  exact (Below.refl w.heap.size w).alloc (Nat.le_refl _) _
set_option maxRecDepth 100000 in
set_option maxHeartbeats 4000000 in
theorem read_full (b : ByteArray) (h8 : b.size = 8) (n m : Nat) (hn : rd4 (b.extract 0 4) = n) (hm : rd4 (b.extract 4 b.size) = m) (x y z : Int) (hz : ansR (if n ≤ 1000000 ∧ m ≤ 1000000 then some ((n : Int), (m : Int)) else none) = (x, y, z)) (w : World) :
    Calls Try.prog 30 #[.string b] w fun e w' => e = .returned (.tuple #[.agg #[.int .i64 x, .int .i64 y], .int .i64 z]) ∧ Below w.heap.size w w' := by
  obtain ⟨X, hX⟩ : ∃ X, b.extract 0 4 = X := ⟨_, rfl⟩
  obtain ⟨Y, hY⟩ : ∃ Y, b.extract 4 b.size = Y := ⟨_, rfl⟩
  have hY' : b.extract 4 8 = Y := by rw [← h8]; exact hY
  have H1 := Lib.hid (show X.size = 4 ∧ rd4 X = n from hX ▸ ⟨(take_size h8).1, hn⟩)
  have H2 := Lib.hid (show Y.size = 4 ∧ rd4 Y = m from hY ▸ ⟨(take_size h8).2, hm⟩)
  have HZ := Lib.hid hz
  have t0 : (b.size : Int) = 8 := by omega
  have t1 : ((b.size : Int) == 8) = true := by rw [beq_iff_eq]; omega
  have t2 : (4 : Int) ≤ (b.size : Int) := by omega
  have X1 := Lib.hid ((Below.refl w.heap.size w).alloc (Nat.le_refl _) (.cells #[.int .i64 0, .int .i64 0] 26))
  have R1 := Lib.hid (show Blk (w.alloc (.cells #[.int .i64 0, .int .i64 0] 26)) w.heap.size 2 (rowL [.int .i64 0, .int .i64 0]) from Blk.new' rfl (row2_ _ _))
  clear h8 hn hm hz
  go_enter Try.func30, Try.ntmps30
  go_upto_region 3 with fail
  obtain ⟨w0, hw0⟩ : ∃ w0, w.alloc (.cells #[.int .i64 0, .int .i64 0] 26) = w0 := ⟨_, rfl⟩
  rw [hw0] at X1 R1
  rw [hw0]
  clear hw0
  have hst : Below w0.heap.size w0 w0.drew := (Below.refl _ _).drew
  have hst2 : ∀ x y : Value, Below w0.heap.size w0 (w0.alloc (.cells #[x, y] 26)).drew := fun x y => ((Below.refl _ _).alloc (Nat.le_refl _) _).drew
  go_cut [4] from 9 to 15 (fun s wx => ∃ y, s = .pointer (some ⟨y, 0, none⟩) ∧ Blk wx y 2 (rowL [.int .i64 (n : Int), .int .i64 (m : Int)]) ∧ Below w0.heap.size w0 wx ∧ w0.heap.size ≤ y)
  case first =>
    go_wp2_with fail
    go_region_held3 (fun w' => Below w0.heap.size w0 w')
      (first | exact hst | exact hst2 _ _ | assumption)
      (first
        | (go_at_call 42; (with_reducible refine (rnum_is X n H1.out.1 H1.out.2 _).mono ?_); rintro e w1 ⟨rfl, rfl⟩)
        | (go_at_call 42; (with_reducible refine (rnum_is Y m H2.out.1 H2.out.2 _).mono ?_); rintro e w1 ⟨rfl, rfl⟩))
    all_goals
      go_wp2_with fail
      go_meet
      exact ⟨w0.heap.size, rfl, (Blk.new' (w := w0) (t := 26) rfl (row2_ (.int .i64 (n : Int)) (.int .i64 (m : Int)))).of_heap rfl, hst2 _ _, Nat.le_refl _⟩
  case rest =>
    obtain ⟨q, rfl, hy, hb, hl⟩ := hcut
    have HY := Lib.hid hy
    have YB := Lib.hid hb
    have YL := Lib.hid hl
    have HSC := Lib.hid (fun (wx : World) (h : Below wc.heap.size wc wx) => cells2 (HY.out.below h HY.out.lt))
    clear hy hb hl hst hst2 hX hY hY' t0 t1 t2
    go_wp2_with fail
    refine plan_abs (fun wx => Below wc.heap.size wc wx) [(true, 0), (true, 1), (false, 2), (true, 3)] (by kernel_rfl) (by kernel_rfl) (fun _ _ d _ _ h => by cases d <;> exact h) fun w5 hs5 => ⟨hs5.below _, ?_⟩
    have Z5 := Lib.hid (show Below wc.heap.size wc w5 from hs5.below _)
    clear hs5
    iterate 2 (refine pl_run _ ?_ rfl rfl ?_ ?_; rotate_left; (focus (intro w' hS; obtain ⟨d0, d1⟩ := HSC.out w' hS; go_simp; exact rfl)); simp only [Act.put, List.setIfInBounds_toArray, List.set_cons_zero, List.set_cons_succ, List.getElem_toArray, List.getElem_cons_zero, List.getElem_cons_succ])
    by_cases h1 : n ≤ 1000000
    · by_cases h2 : m ≤ 1000000
      · obtain ⟨rfl, rfl, rfl⟩ : (n : Int) = x ∧ (m : Int) = y ∧ 0 = z := by
          have := HZ.out
          rw [if_pos ⟨h1, h2⟩] at this
          exact ⟨congrArg (·.1) this, congrArg (·.2.1) this, congrArg (·.2.2) this⟩
        have HNB := Lib.hid (And.intro (near_in (n := (n : Int)) (by omega)) (near_in (n := (m : Int)) (by omega)))
        clear h1 h2
        refine pl_call1 (v := .agg #[.int .i64 (n : Int), .int .i64 (m : Int)]) (R := fun w' => Below w5.heap.size w5 w') _ rfl rfl (by go_simp) (bounded_is (n : Int) (m : Int) (n : Int) (m : Int) (HNB.out.1) (HNB.out.2) _) (fun w' h => Z5.out.trans (h.mono Z5.out.size)) fun w6 hb6 => ?_
        have Z6 := Lib.hid (Z5.out.trans (hb6.mono Z5.out.size))
        clear hb6
        simp only [Act.put, List.setIfInBounds_toArray, List.set_cons_zero, List.set_cons_succ, List.getElem_toArray, List.getElem_cons_zero, List.getElem_cons_succ]
        iterate 1 (refine pl_run _ ?_ rfl rfl ?_ ?_; rotate_left; (focus (intro w' hS; obtain ⟨d0, d1⟩ := HSC.out w' hS; go_simp; exact rfl)); simp only [Act.put, List.setIfInBounds_toArray, List.set_cons_zero, List.set_cons_succ, List.getElem_toArray, List.getElem_cons_zero, List.getElem_cons_succ])
        refine pl_end ?_
        obtain ⟨d0, d1⟩ := HSC.out w6 Z6.out
        have S1 := Lib.hid (R1.out.below (YB.out.trans (Z6.out.mono YB.out.size)) R1.out.lt)
        obtain ⟨e0, e1⟩ := cells2 S1.out
        have f0 := S1.out.frz 0
        have f1 := S1.out.frz 1
        go_wp2_with fail
        obtain ⟨xi, ui⟩ := rset2 S1.out (.int .i64 (n : Int)) (.int .i64 (m : Int))
        obtain ⟨p0, p1⟩ := cells2 xi
        refine bodyPost_ret (v := .tuple #[.agg #[.int .i64 (n : Int), .int .i64 (m : Int)], .int .i64 0]) (by simp [results, Try.results30, go_sem, p0, p1]) rfl ⟨rfl, ?_⟩
        exact (X1.out.trans ((YB.out.trans (Z6.out.mono YB.out.size)).mono X1.out.size)).trans (ui.below (Nat.le_refl _))
      · obtain ⟨rfl, rfl, rfl⟩ : 0 = x ∧ 0 = y ∧ 2 = z := by
          have := HZ.out
          rw [if_neg (fun h => h2 h.2)] at this
          exact ⟨congrArg (·.1) this, congrArg (·.2.1) this, congrArg (·.2.2) this⟩
        have HNB := Lib.hid (And.intro (near_in (n := (n : Int)) (by omega)) (near_out (n := (m : Int)) (by omega)))
        have hne : ¬ (m : Int) = 1000000 := by omega
        clear h1 h2
        refine pl_call1 (v := .agg #[.int .i64 (n : Int), .int .i64 1000000]) (R := fun w' => Below w5.heap.size w5 w') _ rfl rfl (by go_simp) (bounded_is (n : Int) (m : Int) (n : Int) 1000000 (HNB.out.1) (HNB.out.2) _) (fun w' h => Z5.out.trans (h.mono Z5.out.size)) fun w6 hb6 => ?_
        have Z6 := Lib.hid (Z5.out.trans (hb6.mono Z5.out.size))
        clear hb6
        simp only [Act.put, List.setIfInBounds_toArray, List.set_cons_zero, List.set_cons_succ, List.getElem_toArray, List.getElem_cons_zero, List.getElem_cons_succ]
        iterate 1 (refine pl_run _ ?_ rfl rfl ?_ ?_; rotate_left; (focus (intro w' hS; obtain ⟨d0, d1⟩ := HSC.out w' hS; go_simp; exact rfl)); simp only [Act.put, List.setIfInBounds_toArray, List.set_cons_zero, List.set_cons_succ, List.getElem_toArray, List.getElem_cons_zero, List.getElem_cons_succ])
        refine pl_end ?_
        obtain ⟨d0, d1⟩ := HSC.out w6 Z6.out
        have S1 := Lib.hid (R1.out.below (YB.out.trans (Z6.out.mono YB.out.size)) R1.out.lt)
        obtain ⟨e0, e1⟩ := cells2 S1.out
        have f0 := S1.out.frz 0
        have f1 := S1.out.frz 1
        go_wp2_with fail
        obtain ⟨xi, ui⟩ := rset2 S1.out (.int .i64 0) (.int .i64 0)
        obtain ⟨p0, p1⟩ := cells2 xi
        refine bodyPost_ret (v := .tuple #[.agg #[.int .i64 0, .int .i64 0], .int .i64 2]) (by simp [results, Try.results30, go_sem, p0, p1]) rfl ⟨rfl, ?_⟩
        exact (X1.out.trans ((YB.out.trans (Z6.out.mono YB.out.size)).mono X1.out.size)).trans (ui.below (Nat.le_refl _))
    · obtain ⟨rfl, rfl, rfl⟩ : 0 = x ∧ 0 = y ∧ 2 = z := by
        have := HZ.out
        rw [if_neg (fun h => h1 h.1)] at this
        exact ⟨congrArg (·.1) this, congrArg (·.2.1) this, congrArg (·.2.2) this⟩
      have hne : ¬ (n : Int) = 1000000 := by omega
      obtain ⟨y', hy'⟩ : ∃ y', nearI (m : Int) = y' := ⟨_, rfl⟩
      have HNB := Lib.hid (And.intro (near_out (n := (n : Int)) (by omega)) hy')
      clear h1 hy'
      refine pl_call1 (v := .agg #[.int .i64 1000000, .int .i64 y']) (R := fun w' => Below w5.heap.size w5 w') _ rfl rfl (by go_simp) (bounded_is (n : Int) (m : Int) 1000000 y' (HNB.out.1) (HNB.out.2) _) (fun w' h => Z5.out.trans (h.mono Z5.out.size)) fun w6 hb6 => ?_
      have Z6 := Lib.hid (Z5.out.trans (hb6.mono Z5.out.size))
      clear hb6
      simp only [Act.put, List.setIfInBounds_toArray, List.set_cons_zero, List.set_cons_succ, List.getElem_toArray, List.getElem_cons_zero, List.getElem_cons_succ]
      iterate 1 (refine pl_run _ ?_ rfl rfl ?_ ?_; rotate_left; (focus (intro w' hS; obtain ⟨d0, d1⟩ := HSC.out w' hS; go_simp; exact rfl)); simp only [Act.put, List.setIfInBounds_toArray, List.set_cons_zero, List.set_cons_succ, List.getElem_toArray, List.getElem_cons_zero, List.getElem_cons_succ])
      refine pl_end ?_
      obtain ⟨d0, d1⟩ := HSC.out w6 Z6.out
      have S1 := Lib.hid (R1.out.below (YB.out.trans (Z6.out.mono YB.out.size)) R1.out.lt)
      obtain ⟨e0, e1⟩ := cells2 S1.out
      have f0 := S1.out.frz 0
      have f1 := S1.out.frz 1
      go_wp2_with fail
      obtain ⟨xi, ui⟩ := rset2 S1.out (.int .i64 0) (.int .i64 0)
      obtain ⟨p0, p1⟩ := cells2 xi
      refine bodyPost_ret (v := .tuple #[.agg #[.int .i64 0, .int .i64 0], .int .i64 2]) (by simp [results, Try.results30, go_sem, p0, p1]) rfl ⟨rfl, ?_⟩
      exact (X1.out.trans ((YB.out.trans (Z6.out.mono YB.out.size)).mono X1.out.size)).trans (ui.below (Nat.le_refl _))
end Go.Proofs.Ytnahebfhhcebpaa
end
section
open Go Go.RowKit
namespace FF
open WW BB
theorem ready_hit {F : Fo} (i : Nat) (hi : i < F.orph.length) (hn : ∀ j, j < i → hasF F (parI (F.orph.getD j i0).2) = false) (he : hasF F (parI (F.orph.getD i i0).2) = true) : readyF F = some i := by
  unfold readyF
  rw [List.findIdx?_eq_some_iff_getElem]
  refine ⟨hi, by simpa [List.getD, List.getElem?_eq_getElem hi] using he, fun j hj => ?_⟩
  have := hn j hj
  simpa [List.getD, List.getElem?_eq_getElem (show j < F.orph.length by omega)] using this
theorem ready_none {F : Fo} (hn : ∀ j, j < F.orph.length → hasF F (parI (F.orph.getD j i0).2) = false) : readyF F = none := by
  unfold readyF
  rw [List.findIdx?_eq_none_iff]
  intro x hx
  obtain ⟨j, hj, rfl⟩ := List.getElem_of_mem hx
  have := hn j hj
  simpa [List.getD, List.getElem?_eq_getElem hj] using this
theorem stand_root (F : Fo) (x : It) : (standF F x).1.root = F.root := by unfold standF; split; rfl; split <;> rfl
theorem stand_height (F : Fo) (x : It) : (standF F x).1.height = F.height := by unfold standF; split; rfl; split <;> rfl
theorem stand_orph (F : Fo) (x : It) : (standF F x).1.orph = F.orph := by unfold standF; split; rfl; split <;> rfl
theorem stand_len (F : Fo) (x : It) (h : F.nodes.length ≤ 1000) : (standF F x).1.nodes.length ≤ 1000 := by
  unfold standF
  split
  · exact h
  · split
    · exact h
    · simp only [List.length_append, List.length_singleton]; omega
theorem adopt_root : ∀ (m : Nat) (F : Fo), (adoptF m F).root = F.root ∧ (adoptF m F).height = F.height
  | 0, F => ⟨rfl, rfl⟩
  | m + 1, F => by
    unfold adoptF
    split
    · exact ⟨rfl, rfl⟩
    · rename_i i _
      obtain ⟨h1, h2⟩ := adopt_root m (standF { F with orph := F.orph.eraseIdx i } (F.orph.getD i i0)).1
      rw [h1, h2, stand_root, stand_height]; exact ⟨rfl, rfl⟩
/-- the call's two boxes: the forest, the result -/
structure AdS (w : World) (g : Nat) (f1 f3 : Nat → Value) (w' : World) : Prop where
  below : Below w.heap.size w w'
  lo : w.heap.size = g
  a : Blk w' g 4 f1
  c : Blk w' (g + 1) 4 f3
theorem AdS.on {w : World} {g : Nat} {f1 f3 : Nat → Value} {w1 w2 : World} (h : AdS w g f1 f3 w1) (hb : Below w1.heap.size w1 w2) : AdS w g f1 f3 w2 :=
  ⟨h.below.trans (hb.mono h.below.size), h.lo, h.a.below hb h.a.lt, h.c.below hb h.c.lt⟩
theorem AdS.mk2 (w : World) (cs es : List Value) (t s : TypeId) (h1 : cs.toArray = row 4 (rowL cs)) (h3 : es.toArray = row 4 (rowL es)) : AdS w w.heap.size (rowL cs) (rowL es) ((w.alloc (.cells cs.toArray t)).alloc (.cells es.toArray s)) := by
  have b1 := (Below.refl w.heap.size w).alloc (Nat.le_refl _) (.cells cs.toArray t)
  have b2 := b1.alloc b1.size (.cells es.toArray s)
  exact ⟨b2, rfl, (Blk.new' rfl h1).alloc _, Blk.new' (by simp) h3⟩
theorem erase_same (L : List Iv) (i : Nat) (hi : i < L.length) : (L.take (i + 1)).eraseIdx i = (L.take i).eraseIdx i := by
  rw [List.take_add_one, List.getElem?_eq_getElem hi, List.eraseIdx_append_of_length_le (by simp; omega)]
  have : (L.take i).length = i := by simp; omega
  rw [this, Nat.sub_self, List.eraseIdx_of_length_le (l := L.take i) (by omega)]
  simp
theorem erase_more (L : List Iv) (i k : Nat) (hk : k < L.length) (hne : k ≠ i) : (L.take (k + 1)).eraseIdx i = (L.take k).eraseIdx i ++ [L.getD k v0] := by
  have e : L.take (k + 1) = L.take k ++ [L.getD k v0] := by
    rw [List.take_add_one, List.getElem?_eq_getElem hk]; simp [List.getD, List.getElem?_eq_getElem hk]
  have hlen : (L.take k).length = k := by simp; omega
  rw [e]
  by_cases h : i < k
  · rw [List.eraseIdx_append_of_lt_length (by omega)]
  · rw [List.eraseIdx_append_of_length_le (by omega), List.eraseIdx_of_length_le (l := L.take k) (by omega), hlen]
    rw [List.eraseIdx_of_length_le (l := [L.getD k v0]) (by simp; omega)]
theorem erase_mem {L : List Iv} {i k : Nat} {x : Iv} (h : x ∈ (L.take k).eraseIdx i) : x ∈ L := List.mem_of_mem_take (List.mem_of_mem_eraseIdx h)
theorem map_erase : ∀ (L : List Iv) (i : Nat), (L.eraseIdx i).map Prod.fst = (L.map Prod.fst).eraseIdx i
  | [], _ => rfl
  | x :: r, 0 => rfl
  | x :: r, i + 1 => by
    show x.1 :: (r.eraseIdx i).map Prod.fst = x.1 :: (r.map Prod.fst).eraseIdx i
    rw [map_erase r i]
/-- behind the orphan that was found: its box, and the others -/
structure AdI (w : World) (g : Nat) (f1 f3 fx : Nat → Value) (y : Nat) (e : TypeId) (L : List Iv) (v : Value) (w' : World) : Prop where
  s : AdS w g f1 f3 w'
  x : Blk w' y 7 fx
  lo : g + 1 < y
  row : w'.ownsRow (y + 1) e 7 v L.length (cellsV L)
  shape : ∃ a c, v = .slice a L.length c
theorem cells7_new (w : World) (x : Iv) (t : TypeId) : ∀ j u, (encV x)[j]? = some u → (w.alloc (.cells (encV x).toArray t)).cell? ((⟨w.heap.size, 0, none⟩ : Addr).add j) = some u := by
  intro j u hj
  rw [Addr.add_lit, Nat.zero_add]
  exact cell_new w _ t j _ (by simpa using hj)
end FF
namespace Go.Proofs.Ytnahebfhhcebpaa
open FF JJ CC WW BB
end Go.Proofs.Ytnahebfhhcebpaa
end
