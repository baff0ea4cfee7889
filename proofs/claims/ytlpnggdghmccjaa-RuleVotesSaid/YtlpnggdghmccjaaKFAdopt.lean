/-
  The walk of the reference's adopt: orphans whose parents are there.
-/
import Derived.Test.YtlpnggdghmccjaaKFItem
import Derived.Test.YtlpnggdghmccjaaKLNum
import Derived.Test.YtlpnggdghmccjaaKPlanE
import Derived.Test.YtlpnggdghmccjaaKEText
import Derived.Test.YtlpnggdghmccjaaKJUnlike
import Derived.Test.YtlpnggdghmccjaaKPlanG
import Derived.Test.YtlpnggdghmccjaaKJBox
import Derived.Laws.OwnMore
import Derived.Laws.AppendOwn
import Derived.Test.YtlpnggdghmccjaaKWReqLaw
import Derived.Test.YtlpnggdghmccjaaKWFewB
import Derived.Deep.RegionHeld3
import Derived.Test.YtlpnggdghmccjaaChecked
import Derived.Test.YtlpnggdghmccjaaKWCutR
section
open Go Go.RowKit
namespace FF
open WW BB
/-- the blocks of A stay as they are -/
structure Keeps (A : Nat → Prop) (w w' : World) : Prop where
  b0 : Below 0 w w'
  block : ∀ b, A b → b < w.heap.size → w'.heap[b]? = w.heap[b]?
theorem Keeps.refl (A : Nat → Prop) (w : World) : Keeps A w w := ⟨Below.refl 0 w, fun _ _ _ => rfl⟩
theorem Keeps.trans {A : Nat → Prop} {w1 w2 w3 : World} (h : Keeps A w1 w2) (k : Keeps A w2 w3) : Keeps A w1 w3 := ⟨h.b0.trans k.b0, fun b hb hl => (k.block b hb (Nat.lt_of_lt_of_le hl h.b0.size)).trans (h.block b hb hl)⟩
theorem Keeps.of {A : Nat → Prop} {w w' : World} (h : Below w.heap.size w w') : Keeps A w w' := ⟨h.mono (Nat.zero_le _), fun b _ hl => h.block b hl⟩
theorem Keeps.upd {A : Nat → Prop} {c : Nat} {w w' : World} (h : Upd c w w') (hA : ∀ b, A b → b ≠ c) : Keeps A w w' := ⟨h.below (Nat.zero_le _), fun b hb _ => h.block b (hA b hb)⟩
theorem Keeps.sub {A A' : Nat → Prop} {w w' : World} (h : Keeps A w w') (hA : ∀ b, A' b → b < w.heap.size → A b) : Keeps A' w w' := ⟨h.b0, fun b hb hl => h.block b (hA b hb hl) hl⟩
theorem Keeps.below {w w' : World} (h : Keeps (fun b => b < w.heap.size) w w') : Below w.heap.size w w' := ⟨h.b0.os, h.b0.tape, h.b0.output, h.b0.size, fun k hk => h.block k hk hk⟩
/-- what is said of a world rests upon the blocks of A -/
def Dep (A : Nat → Prop) (w : World) (P : World → Prop) : Prop := ∀ w', Keeps A w w' → P w'
theorem Dep.now {A : Nat → Prop} {w : World} {P : World → Prop} (h : Dep A w P) : P w := h w (Keeps.refl A w)
theorem Dep.on {A : Nat → Prop} {w w' : World} {P : World → Prop} (h : Dep A w P) (hk : Keeps A w w') : Dep A w' P := fun w2 h2 => h w2 (hk.trans h2)
theorem Dep.more {A A' : Nat → Prop} {w : World} {P : World → Prop} (h : Dep A w P) (hA : ∀ b, A b → b < w.heap.size → A' b) : Dep A' w P := fun w2 h2 => h w2 (h2.sub hA)
/-- the forest F, resting upon the blocks of A -/
def FoD (A : Nat → Prop) (w : World) (F : Fo) (nv ov : Value) : Prop := ∃ N O : List Iv, N.map Prod.fst = F.nodes ∧ O.map Prod.fst = F.orph ∧ Dep A w (fun w' => IvAt w' nv N ∧ IvAt w' ov O)
theorem FoD.now {A : Nat → Prop} {w : World} {F : Fo} {nv ov : Value} (h : FoD A w F nv ov) : FoAt w F nv ov := by
  obtain ⟨N, O, h1, h2, h3⟩ := h
  exact ⟨N, O, h1, h2, h3.now.1, h3.now.2⟩
theorem FoD.on {A : Nat → Prop} {w w' : World} {F : Fo} {nv ov : Value} (h : FoD A w F nv ov) (hk : Keeps A w w') : FoD A w' F nv ov := by
  obtain ⟨N, O, h1, h2, h3⟩ := h
  exact ⟨N, O, h1, h2, h3.on hk⟩
theorem FoD.more {A A' : Nat → Prop} {w : World} {F : Fo} {nv ov : Value} (h : FoD A w F nv ov) (hA : ∀ b, A b → b < w.heap.size → A' b) : FoD A' w F nv ov := by
  obtain ⟨N, O, h1, h2, h3⟩ := h
  exact ⟨N, O, h1, h2, h3.more hA⟩
theorem FoD.cut {A : Nat → Prop} {w : World} {F : Fo} {nv ov : Value} (h : FoD A w F nv ov) : FoD (fun b => A b ∧ b < w.heap.size) w F nv ov := by
  obtain ⟨N, O, h1, h2, h3⟩ := h
  exact ⟨N, O, h1, h2, fun w2 h4 => h3 w2 (h4.sub fun c hc hl => ⟨hc, hl⟩)⟩
theorem fod_of {w : World} {F : Fo} {nv ov : Value} (h : FoAt w F nv ov) : FoD (fun b => b < w.heap.size) w F nv ov := by
  obtain ⟨N, O, h1, h2, h3, h4⟩ := h
  exact ⟨N, O, h1, h2, fun _ hk => ⟨h3.later hk.below, h4.later hk.below⟩⟩
theorem dep_inn {w : World} {x : Iv} (h : InnV w x) : Dep (fun b => b < w.heap.size) w (fun w' => InnV w' x) := fun _ hk => h.later hk.below
/-- a list as a row -/
def rowL (l : List Value) (i : Nat) : Value := l.getD i undef
/-- the call's three boxes: the forest, the item, the result -/
structure PuS (w : World) (g : Nat) (f1 f2 f3 : Nat → Value) (w' : World) : Prop where
  below : Below w.heap.size w w'
  lo : w.heap.size = g
  a : Blk w' g 4 f1
  b : Blk w' (g + 1) 7 f2
  c : Blk w' (g + 1 + 1) 4 f3
theorem PuS.on {w : World} {g : Nat} {f1 f2 f3 : Nat → Value} {w1 w2 : World} (h : PuS w g f1 f2 f3 w1) (hb : Below w1.heap.size w1 w2) : PuS w g f1 f2 f3 w2 :=
  ⟨h.below.trans (hb.mono h.below.size), h.lo, h.a.below hb h.a.lt, h.b.below hb h.b.lt, h.c.below hb h.c.lt⟩
theorem PuS.mk3 (w : World) (cs ds es : List Value) (t u s : TypeId) (h1 : cs.toArray = row 4 (rowL cs)) (h2 : ds.toArray = row 7 (rowL ds)) (h3 : es.toArray = row 4 (rowL es)) : PuS w w.heap.size (rowL cs) (rowL ds) (rowL es) (((w.alloc (.cells cs.toArray t)).alloc (.cells ds.toArray u)).alloc (.cells es.toArray s)) := by
  have b1 := (Below.refl w.heap.size w).alloc (Nat.le_refl _) (.cells cs.toArray t)
  have b2 := b1.alloc b1.size (.cells ds.toArray u)
  have b3 := b2.alloc b2.size (.cells es.toArray s)
  refine ⟨b3, rfl, ((Blk.new' rfl h1).alloc _).alloc _, (Blk.new' (by simp) h2).alloc _, Blk.new' (by simp) h3⟩
theorem run_append_none_any {P : Program} {w : World} (base : Nat) (t ty e : TypeId) (i : TypeInfo) (size : Nat) (ht : P.underlying t = some (.slice e)) (hi : P.info? e = some i)
    (v : Value) (n : Nat) (xs : List Value) (hown : w.ownsRow base e size v n xs) (c : Nat) :
    (Builtin.append_ #[t, t] ty #[v, .slice none 0 c]).run P w = .ok v w := by
  rcases hown.2 with ⟨rfl, rfl⟩ | ⟨g, cap, cur, rfl, _, _, hnc, _⟩
  · simp [Builtin.append_, run_underlying ht, Go.sizeOf, typeInfo, hi, Builtin.lenOf, Builtin.firstCells]
  · simp [Builtin.append_, run_underlying ht, Go.sizeOf, typeInfo, hi, Builtin.lenOf, Builtin.firstCells, hnc, storeCells]
/-- what was in a slice is appended to an empty row of the call's own -/
theorem run_append_arg0 {P : Program} {w : World} (base : Nat) (t ty e : TypeId) (i : TypeInfo) (z : Value) (size bytes : Nat) (ht : P.underlying t = some (.slice e)) (hi : P.info? e = some i) (hz : i.zero = some z)
    (hsize : i.size = size) (hby : i.bytes = bytes) (hzs : z.cells.size = size) (hsz : 0 < size) (b : Nat) (hown : w.ownsRow base e size (.slice (some ⟨b, 0, none⟩) 0 0) 0 []) (a0 : Option Addr) (j c : Nat) (news : List Value) (hl : news.length = j * size)
    (hn : a0 = none → j = 0) (hnews : ∀ a, a0 = some a → ∀ k u, news[k]? = some u → w.cell? (a.add k) = some u) (h1 : ∀ y ∈ news, y.oneCell' = true)
    (h63 : j ≤ maxLen) (hbytes : j * bytes ≤ 140737488355328) (hbase : base ≤ w.heap.size) :
    ∃ v' w', (Builtin.append_ #[t, t] ty #[.slice (some ⟨b, 0, none⟩) 0 0, .slice a0 j c]).run P w = .ok v' w' ∧ w'.ownsRow base e size v' j news ∧ w.grownBy w' (some b) ∧ ∀ c, v'.ownBlock = some c → c = b ∨ w.heap.size ≤ c := by
  rcases a0 with _ | a
  · obtain rfl := hn rfl
    have hn : news = [] := List.eq_nil_of_length_eq_zero (by simpa using hl)
    subst hn
    exact ⟨_, w, run_append_none_any (P := P) (w := w) base t ty e i size ht hi _ 0 [] hown c, hown, ⟨rfl, rfl, rfl, Nat.le_refl _, fun _ _ _ => rfl⟩, fun c' hc => by
      have hc : some b = some c' := hc
      injection hc with hc
      exact Or.inl hc.symm⟩
  · obtain ⟨v', w', hr, ho, hg, _⟩ := run_append_own (P := P) w base t ty e i z size bytes ht hi hz hsize hby hzs hsz _ 0 [] hown a j c news hl (hnews a rfl) h1 (by simpa using h63) (by simpa using hbytes) hbase
    refine ⟨v', w', hr, by simpa using ho, hg, fun c' hc => ?_⟩
    by_cases hj : j = 0
    · subst hj
      have hn : news = [] := List.eq_nil_of_length_eq_zero (by simpa using hl)
      subst hn
      obtain ⟨cur', hh⟩ : ∃ cur', w.heap[b]? = some (.cells cur' e (0, 0)) := by
        rcases hown.2 with ⟨h, _⟩ | ⟨g', cap', cur', h, _, hh, _⟩
        · cases h
        · injection h with h _ _; injection h with h; injection h with h; subst h; exact ⟨cur', hh⟩
      have h2 := run_append_room (P := P) w t ty e i ht hi b 0 0 cur' hh a 0 c [] (by simp) (by simp) (by simp) (by omega) (by simp)
      rw [hr] at h2
      injection h2 with h2 _
      subst h2
      have hc : some b = some c' := hc
      injection hc with hc
      exact Or.inl hc.symm
    · have h2 := run_append_grow (P := P) w t ty e i z ht hi hz ⟨b, 0, none⟩ 0 0 [] (by simp) (by simp) a j c news (by rw [hsize]; exact hl) (hnews a rfl) (by omega) (by unfold maxLen at h63; omega) (growslice_fits (by omega) (by rw [hby]; simpa using hbytes))
      rw [hr] at h2
      injection h2 with h2 _
      subst h2
      have hc : some w.heap.size = some c' := hc
      injection hc with hc
      exact Or.inr (by omega)
/-- four cells are written -/
theorem set4 {w : World} {a : Nat} {f : Nat → Value} (h : Blk w a 4 f) (u0 u1 u2 u3 : Value) :
    ((((((w.setCell ⟨a, 0, none⟩ u0).setCell ⟨a, 1, none⟩ u1).setCell ⟨a, 2, none⟩ u2).setCell ⟨a, 3, none⟩ u3).cell? ⟨a, 0, none⟩ = some u0 ∧ ((((w.setCell ⟨a, 0, none⟩ u0).setCell ⟨a, 1, none⟩ u1).setCell ⟨a, 2, none⟩ u2).setCell ⟨a, 3, none⟩ u3).cell? ⟨a, 1, none⟩ = some u1 ∧
      ((((w.setCell ⟨a, 0, none⟩ u0).setCell ⟨a, 1, none⟩ u1).setCell ⟨a, 2, none⟩ u2).setCell ⟨a, 3, none⟩ u3).cell? ⟨a, 2, none⟩ = some u2 ∧ ((((w.setCell ⟨a, 0, none⟩ u0).setCell ⟨a, 1, none⟩ u1).setCell ⟨a, 2, none⟩ u2).setCell ⟨a, 3, none⟩ u3).cell? ⟨a, 3, none⟩ = some u3)) ∧
    Upd a w ((((w.setCell ⟨a, 0, none⟩ u0).setCell ⟨a, 1, none⟩ u1).setCell ⟨a, 2, none⟩ u2).setCell ⟨a, 3, none⟩ u3) := by
  have k := ((((h.set 0 u0).set 1 u1).set 2 u2).set 3 u3)
  exact ⟨⟨k.get 0 (by omega), k.get 1 (by omega), k.get 2 (by omega), k.get 3 (by omega)⟩, ((((Upd.refl a w).trans (Upd.set _ _ _ _)).trans (Upd.set _ _ _ _)).trans (Upd.set _ _ _ _)).trans (Upd.set _ _ _ _)⟩
/-- the cells of a slice of items, one behind the other -/
theorem iv_flat {w w' : World} {a0 : Option Addr} {n c : Nat} {L : List Iv} (h : IvAt w (.slice a0 n c) L) (hb : Below w.heap.size w w') : ∀ a, a0 = some a → ∀ k u, (cellsV L)[k]? = some u → w'.cell? (a.add k) = some u := by
  intro a ha k u hu
  obtain ⟨a1, c1, he, h | ⟨b, off, h1, hl, hc⟩⟩ := h
  · subst h; simp [cellsV] at hu
  · injection he with e1 _ _
    rw [ha, h1] at e1
    injection e1 with e1
    subst e1
    have hk : k < L.length * 7 := by rw [← cellsV_len]; exact (List.getElem?_eq_some_iff.1 hu).1
    have hi : k / 7 < L.length := by omega
    have hj : k % 7 < (encV (L.getD (k / 7) v0)).length := by show k % 7 < 7; omega
    have h2 := cellsV_at L (k / 7) (k % 7) _ hi (List.getElem?_eq_getElem hj)
    rw [show k / 7 * 7 + k % 7 = k by omega, hu] at h2
    injection h2 with h2
    have h3 := (hc (k / 7) hi).1 (k % 7) _ (List.getElem?_eq_getElem hj)
    rw [← h2, show off + k / 7 * 7 + k % 7 = off + k by omega] at h3
    rw [Addr.add_lit]
    exact (hb.cell (p := ⟨b, off + k, none⟩) hl).trans h3
theorem iv_none {w : World} {a0 : Option Addr} {n c : Nat} {L : List Iv} (h : IvAt w (.slice a0 n c) L) (h0 : a0 = none) : n = 0 := by
  obtain ⟨a1, c1, he, h | ⟨b, off, h1, _⟩⟩ := h
  · subst h; injection he
  · injection he with e1 _ _
    rw [h0, h1] at e1
    cases e1
end FF
namespace Go.Proofs.Ytlpnggdghmccjaa
open FF JJ CC WW BB
end Go.Proofs.Ytlpnggdghmccjaa
end
section
open Go Go.RowKit
namespace RR
open FF BB
theorem row2_ (a b : Value) : (#[a, b] : Array Value) = row 2 (rowL [a, b]) := rfl
theorem row3_ (a b c : Value) : (#[a, b, c] : Array Value) = row 3 (rowL [a, b, c]) := rfl
theorem row4_ (a b c d : Value) : (#[a, b, c, d] : Array Value) = row 4 (rowL [a, b, c, d]) := rfl
theorem row6_ (a b c d e f : Value) : (#[a, b, c, d, e, f] : Array Value) = row 6 (rowL [a, b, c, d, e, f]) := rfl
theorem rset2 {w : World} {a : Nat} {f : Nat → Value} (h : Blk w a 2 f) (u0 u1 : Value) :
    Blk ((w.setCell ⟨a, 0, none⟩ u0).setCell ⟨a, 1, none⟩ u1) a 2 (rowL [u0, u1]) ∧ Upd a w ((w.setCell ⟨a, 0, none⟩ u0).setCell ⟨a, 1, none⟩ u1) := by
  refine ⟨((h.set 0 u0).set 1 u1).congr _ fun i hi => ?_, ((Upd.refl a w).trans (Upd.set _ _ _ _)).trans (Upd.set _ _ _ _)⟩
  match i, hi with
  | 0, _ => rfl
  | 1, _ => rfl
theorem rset3 {w : World} {a : Nat} {f : Nat → Value} (h : Blk w a 3 f) (u0 u1 u2 : Value) :
    Blk (((w.setCell ⟨a, 0, none⟩ u0).setCell ⟨a, 1, none⟩ u1).setCell ⟨a, 2, none⟩ u2) a 3 (rowL [u0, u1, u2]) ∧ Upd a w (((w.setCell ⟨a, 0, none⟩ u0).setCell ⟨a, 1, none⟩ u1).setCell ⟨a, 2, none⟩ u2) := by
  refine ⟨(((h.set 0 u0).set 1 u1).set 2 u2).congr _ fun i hi => ?_, (((Upd.refl a w).trans (Upd.set _ _ _ _)).trans (Upd.set _ _ _ _)).trans (Upd.set _ _ _ _)⟩
  match i, hi with
  | 0, _ => rfl
  | 1, _ => rfl
  | 2, _ => rfl
theorem rset6 {w : World} {a : Nat} {f : Nat → Value} (h : Blk w a 6 f) (u0 u1 u2 u3 u4 u5 : Value) :
    Blk ((((((w.setCell ⟨a, 0, none⟩ u0).setCell ⟨a, 1, none⟩ u1).setCell ⟨a, 2, none⟩ u2).setCell ⟨a, 3, none⟩ u3).setCell ⟨a, 4, none⟩ u4).setCell ⟨a, 5, none⟩ u5) a 6 (rowL [u0, u1, u2, u3, u4, u5]) ∧
    Upd a w ((((((w.setCell ⟨a, 0, none⟩ u0).setCell ⟨a, 1, none⟩ u1).setCell ⟨a, 2, none⟩ u2).setCell ⟨a, 3, none⟩ u3).setCell ⟨a, 4, none⟩ u4).setCell ⟨a, 5, none⟩ u5) := by
  refine ⟨((((((h.set 0 u0).set 1 u1).set 2 u2).set 3 u3).set 4 u4).set 5 u5).congr _ fun i hi => ?_, ((((((Upd.refl a w).trans (Upd.set _ _ _ _)).trans (Upd.set _ _ _ _)).trans (Upd.set _ _ _ _)).trans (Upd.set _ _ _ _)).trans (Upd.set _ _ _ _)).trans (Upd.set _ _ _ _)⟩
  match i, hi with
  | 0, _ => rfl
  | 1, _ => rfl
  | 2, _ => rfl
  | 3, _ => rfl
  | 4, _ => rfl
  | 5, _ => rfl
theorem cells2 {w : World} {b : Nat} {x y : Value} (h : Blk w b 2 (rowL [x, y])) : w.cell? ⟨b, 0, none⟩ = some x ∧ w.cell? ⟨b, 1, none⟩ = some y := ⟨h.get 0 (by omega), h.get 1 (by omega)⟩
theorem cells3 {w : World} {b : Nat} {x y z : Value} (h : Blk w b 3 (rowL [x, y, z])) : w.cell? ⟨b, 0, none⟩ = some x ∧ w.cell? ⟨b, 1, none⟩ = some y ∧ w.cell? ⟨b, 2, none⟩ = some z := ⟨h.get 0 (by omega), h.get 1 (by omega), h.get 2 (by omega)⟩
theorem cells4 {w : World} {b : Nat} {x y z u : Value} (h : Blk w b 4 (rowL [x, y, z, u])) : w.cell? ⟨b, 0, none⟩ = some x ∧ w.cell? ⟨b, 1, none⟩ = some y ∧ w.cell? ⟨b, 2, none⟩ = some z ∧ w.cell? ⟨b, 3, none⟩ = some u := ⟨h.get 0 (by omega), h.get 1 (by omega), h.get 2 (by omega), h.get 3 (by omega)⟩
theorem cells6 {w : World} {b : Nat} {x y z u v t : Value} (h : Blk w b 6 (rowL [x, y, z, u, v, t])) : w.cell? ⟨b, 0, none⟩ = some x ∧ w.cell? ⟨b, 1, none⟩ = some y ∧ w.cell? ⟨b, 2, none⟩ = some z ∧ w.cell? ⟨b, 3, none⟩ = some u ∧ w.cell? ⟨b, 4, none⟩ = some v ∧ w.cell? ⟨b, 5, none⟩ = some t :=
  ⟨h.get 0 (by omega), h.get 1 (by omega), h.get 2 (by omega), h.get 3 (by omega), h.get 4 (by omega), h.get 5 (by omega)⟩
end RR
namespace BB
/-- a store in a plan -/
theorem pl_store {P : Program} {ops : Array Oper} {S : World → Prop} {Q : Exit → Act → World → Prop} {i : Nat} {r : List (Bool × Nat)} {a : Act} {w w' : World} (o : Oper) (ho : ops[i]? = some o) (hg : o.guard = none) (h : (execOp a.eval o).run P w = .ok .skip w') (hS : S w') (hK : wpPlan P ops Q S r (a.put o.dst undef) w') : wpPlan P ops Q S ((false, i) :: r) a w := by
  show wpOp P ops Q i _ a w
  unfold wpOp; simp only [ho, Region.wanted, hg, if_true]
  left; unfold Oper.wp; rw [h]; exact ⟨hS, hK⟩
theorem pe_store {P : Program} {ops : Array Oper} {S : World → Prop} {Q : Exit → Act → World → Prop} {t i : Nat} {r : List (Bool × Nat)} {a : Act} {w w' : World} (o : Oper) (ho : ops[i]? = some o) (hg : o.guard = none) (h : (execOp a.eval o).run P w = .ok .skip w') (hS : S w') (hK : wpPlanE P ops Q S t r (a.put o.dst undef) w') : wpPlanE P ops Q S t ((false, i) :: r) a w := by
  show wpOp P ops Q i _ a w
  unfold wpOp; simp only [ho, Region.wanted, hg, if_true]
  left; unfold Oper.wp; rw [h]; exact ⟨fun _ => hS, hK⟩
end BB
end
section
open Go Go.RowKit
namespace Go.Proofs.Ytlpnggdghmccjaa
open RR FF WW BB
set_option maxRecDepth 100000 in
set_option maxHeartbeats 2000000 in
theorem bytes_any (v l : Int) (w : World) : Calls Try.prog 10 #[.agg #[.int .i64 v, .int .i64 l]] w fun e w' => e = .returned (.string (bytesS v l)) ∧ Below w.heap.size w w' := by
  have h1 : ¬ 9223372036854775807 < (num v).size + (num l).size := by rw [num_size, num_size]; omega
  have h2 : (num v).size + (num l).size ≤ 9223372036854775807 := by rw [num_size, num_size]; omega
  have H1 := Lib.hid h1
  clear h2
  go_enter Try.func10, Try.ntmps10
  go_wp2_with fail
  have c0 := cell_new w #[.int .i64 v, .int .i64 l] 23 0 _ rfl
  have c1 := cell_new w #[.int .i64 v, .int .i64 l] 23 1 _ rfl
  have b0 : Below w.heap.size w (w.alloc (.cells #[.int .i64 v, .int .i64 l] 23)) := (Below.refl _ _).alloc (Nat.le_refl _) _
  generalize w.alloc (.cells #[.int .i64 v, .int .i64 l] 23) = w0 at *
  have z0 := b0.size
  obtain ⟨g, hg⟩ : ∃ g, w.heap.size = g := ⟨_, rfl⟩
  rw [hg] at c0 c1 b0 z0 ⊢
  have HG := Lib.hid hg
  clear hg
  have hst : w0.drew.cell? ⟨g, 0, none⟩ = some (.int .i64 v) ∧ w0.drew.cell? ⟨g, 1, none⟩ = some (.int .i64 l) ∧ Below g w w0.drew ∧ g ≤ w0.drew.heap.size := ⟨c0, c1, b0.drew, z0⟩
  go_region_held3 (fun w' => w'.cell? ⟨g, 0, none⟩ = some (.int .i64 v) ∧ w'.cell? ⟨g, 1, none⟩ = some (.int .i64 l) ∧ Below g w w' ∧ g ≤ w'.heap.size)
    (first | exact hst | exact hk)
    (first
      | (go_at_call 15; refine (number_any _ _).mono ?_; rintro e w1 ⟨rfl, hb1⟩; have hk := keep2 (w := w) (g := g) (v0 := .int .i64 v) (v1 := .int .i64 l) (B := g) (by assumption) hb1))
  go_wp2_with fail
  go_ret
  exact ⟨rfl, by rw [HG.out]; exact hk.2.2.1⟩
set_option maxRecDepth 100000 in
set_option maxHeartbeats 2000000 in
theorem rbytes_any (v l : Int) (w : World) : Calls Try.prog 12 #[.agg #[.int .i64 v, .int .i64 l]] w fun e w' => e = .returned (.string (bytesS v l)) ∧ Below w.heap.size w w' := by
  have h1 : ¬ 9223372036854775807 < (num v).size + (num l).size := by rw [num_size, num_size]; omega
  have h2 : (num v).size + (num l).size ≤ 9223372036854775807 := by rw [num_size, num_size]; omega
  have H1 := Lib.hid h1
  clear h2
  go_enter Try.func12, Try.ntmps12
  go_wp2_with fail
  have c0 := cell_new w #[.int .i64 v, .int .i64 l] 23 0 _ rfl
  have c1 := cell_new w #[.int .i64 v, .int .i64 l] 23 1 _ rfl
  have b0 : Below w.heap.size w (w.alloc (.cells #[.int .i64 v, .int .i64 l] 23)) := (Below.refl _ _).alloc (Nat.le_refl _) _
  generalize w.alloc (.cells #[.int .i64 v, .int .i64 l] 23) = w0 at *
  have z0 := b0.size
  obtain ⟨g, hg⟩ : ∃ g, w.heap.size = g := ⟨_, rfl⟩
  rw [hg] at c0 c1 b0 z0 ⊢
  have HG := Lib.hid hg
  clear hg
  have hst : w0.drew.cell? ⟨g, 0, none⟩ = some (.int .i64 v) ∧ w0.drew.cell? ⟨g, 1, none⟩ = some (.int .i64 l) ∧ Below g w w0.drew ∧ g ≤ w0.drew.heap.size := ⟨c0, c1, b0.drew, z0⟩
  go_region_held3 (fun w' => w'.cell? ⟨g, 0, none⟩ = some (.int .i64 v) ∧ w'.cell? ⟨g, 1, none⟩ = some (.int .i64 l) ∧ Below g w w' ∧ g ≤ w'.heap.size)
    (first | exact hst | exact hk)
    (first
      | (go_at_call 18; refine (rnumber_any _ _).mono ?_; rintro e w1 ⟨rfl, hb1⟩; have hk := keep2 (w := w) (g := g) (v0 := .int .i64 v) (v1 := .int .i64 l) (B := g) (by assumption) hb1))
  go_wp2_with fail
  go_ret
  exact ⟨rfl, by rw [HG.out]; exact hk.2.2.1⟩
end Go.Proofs.Ytlpnggdghmccjaa
end
section
open Go Go.RowKit
namespace RR
open WW BB
def nearI (n : Int) : Int := min (max n 0) 1000000
/-- what the first k bytes tell -/
def hn (b : ByteArray) : Nat → Nat
  | 0 => 0
  | k + 1 => hn b k * 256 + (b.data.toList.getD k 0).toNat
theorem hn_lt (b : ByteArray) : ∀ k, hn b k < 256 ^ k
  | 0 => by show 0 < 1; omega
  | k + 1 => by
    have h := hn_lt b k
    have h1 := UInt8.toNat_lt (b.data.toList.getD k 0)
    show hn b k * 256 + (b.data.toList.getD k 0).toNat < 256 ^ k * 256
    omega
theorem hn_four (b : ByteArray) : hn b 4 = rd4 b := by
  unfold rd4
  simp only [hn]
  omega
theorem hn_step (b : ByteArray) (k : Nat) (hk : k < 4) (hb : k < b.size) : bits .or .u32 (IntKind.u32.wrap ((hn b k : Int) * 256)) (IntKind.u32.wrap (b[k].toNat : Int)) = (hn b (k + 1) : Int) := by
  have h := hn_lt b k
  have h3 : 256 ^ k ≤ 256 ^ 3 := Nat.pow_le_pow_right (by omega) (by omega)
  have h4 : hn b k < 16777216 := Nat.lt_of_lt_of_le h (by simpa using h3)
  have h1 := UInt8.toNat_lt (b.data.toList.getD k 0)
  rw [get_byte]
  have e1 : IntKind.u32.wrap ((hn b k : Int) * 256) = ((hn b k * 256 : Nat) : Int) := by rw [IntKind.wrap_u32']; omega
  have e2 : IntKind.u32.wrap ((b.data.toList.getD k 0).toNat : Int) = ((b.data.toList.getD k 0).toNat : Int) := by rw [IntKind.wrap_u32']; omega
  rw [e1, e2, or_u32 _ _ (by omega) (by omega)]
  show _ = ((hn b k * 256 + (b.data.toList.getD k 0).toNat : Nat) : Int)
  rw [show hn b k * 256 = 2 ^ 8 * hn b k by omega, ← Nat.two_pow_add_eq_or_of_lt (by omega)]
end RR
namespace Go.Proofs.Ytlpnggdghmccjaa
open RR FF WW BB
set_option maxRecDepth 100000 in
theorem near_is (n x : Int) (hx : nearI n = x) (w : World) : Calls Try.prog 20 #[.int .i64 n] w fun e w' => e = .returned (.int .i64 x) ∧ w' = w := by
  subst hx
  go_enter Try.func20, Try.ntmps20
  go_wp2_with fail
  go_ret
  exact ⟨rfl, rfl⟩
set_option maxRecDepth 100000 in
set_option maxHeartbeats 1000000 in
theorem rnum_is (b : ByteArray) (x : Nat) (hb : b.size = 4) (hx : rd4 b = x) (w : World) : Calls Try.prog 16 #[.string b] w fun e w' => e = .returned (.int .i64 (x : Int)) ∧ w' = w := by
  have HB := Lib.hid hb
  have HX := Lib.hid hx
  have HX2 := Lib.hid (show wrap64 (x : Int) = (x : Int) by have h := rd4_lt b; exact IntWalk.wrap64_in _ (by omega))
  clear hb hx
  go_enter Try.func16, Try.ntmps16
  go_wp2_with fail
  go_loop [3, 5] (fun n i => ∃ k : Nat, k ≤ 4 ∧ i = .int .i64 (k : Int) ∧ n = .int .u32 (hn b k : Int)) (fun _ i => 4 - (intOf i).toNat)
  case atStart => exact ⟨0, by omega, rfl, rfl⟩
  case round =>
    obtain ⟨k, hk, rfl, rfl⟩ := hrel
    by_cases hlt : k < 4
    · have h1 : k < b.size := by rw [HB.out]; exact hlt
      have h2 : (k : Int) < 4 := by omega
      have h3 : (0 : Int) ≤ (k : Int) := by omega
      have h4 : (k : Int) < (b.size : Int) := by omega
      have E := Lib.hid (show bits .or .u32 ((hn b k : Int) * 256 % 4294967296) ((b[k].toNat : Int) % 4294967296) = (hn b (k + 1) : Int) by rw [← IntKind.wrap_u32', ← IntKind.wrap_u32']; exact hn_step b k hlt h1)
      have HLT := Lib.hid hlt
      clear hk
      go_wp2_with fail
      go_round
      case rel => exact ⟨k + 1, by have := HLT.out; omega, by go_num, by rw [E.out]⟩
      case measure => have := HLT.out; simp [intOf]; omega
    · obtain rfl : k = 4 := by omega
      have h2 : ¬ ((4 : Nat) : Int) < 4 := by omega
      have E := Lib.hid (show hn b 4 = x by rw [hn_four]; exact HX.out)
      go_wp2_with fail
      go_ret
      refine ⟨?_, rfl⟩
      show Ending.returned (.int .i64 (wrap64 (hn b 4 : Int))) = _
      rw [E.out, HX2.out]
set_option maxRecDepth 100000 in
set_option maxHeartbeats 2000000 in
theorem bounded_is (a b x y : Int) (hx : nearI a = x) (hy : nearI b = y) (w : World) : Calls Try.prog 17 #[.agg #[.int .i64 a, .int .i64 b]] w fun e w' => e = .returned (.agg #[.int .i64 x, .int .i64 y]) ∧ Below w.heap.size w w' := by
  have HX := Lib.hid hx
  have HY := Lib.hid hy
  have X2 := Lib.hid (((Below.refl w.heap.size w).alloc (Nat.le_refl _) (.cells #[.int .i64 a, .int .i64 b] 23)).alloc (by simp) (.cells #[.int .i64 0, .int .i64 0] 23))
  have R0 := Lib.hid (show Blk ((w.alloc (.cells #[.int .i64 a, .int .i64 b] 23)).alloc (.cells #[.int .i64 0, .int .i64 0] 23)) w.heap.size 2 (rowL [.int .i64 a, .int .i64 b]) from (Blk.new' rfl (row2_ _ _)).alloc _)
  have R1 := Lib.hid (show Blk ((w.alloc (.cells #[.int .i64 a, .int .i64 b] 23)).alloc (.cells #[.int .i64 0, .int .i64 0] 23)) (w.heap.size + 1) 2 (rowL [.int .i64 0, .int .i64 0]) from Blk.new' (by simp) (row2_ _ _))
  clear hx hy
  go_enter Try.func17, Try.ntmps17
  go_wp2_with fail
  obtain ⟨w0, hw0⟩ : ∃ w0, (w.alloc (.cells #[.int .i64 a, .int .i64 b] 23)).alloc (.cells #[.int .i64 0, .int .i64 0] 23) = w0 := ⟨_, rfl⟩
  rw [hw0] at X2 R0 R1
  rw [hw0]
  clear hw0
  refine tail_abs 7 (by kernel_rfl) (by kernel_rfl) fun w2 hs2 => ?_
  have Y2 := Lib.hid (X2.out.trans (hs2.below _))
  have S1 := Lib.hid (R1.out.same hs2)
  obtain ⟨c0, c1⟩ := cells2 (R0.out.same hs2)
  clear hs2
  simp only [List.take_succ_cons, List.take_zero, List.drop_succ_cons, List.drop_zero]
  iterate 2 still_step
  still_call (near_is a x HX.out w2)
  iterate 2 still_step
  still_call (near_is b y HY.out w2)
  iterate 1 still_step
  refine wpStill_nil ?_
  obtain ⟨e0, e1⟩ := cells2 S1.out
  have f0 := S1.out.frz 0
  have f1 := S1.out.frz 1
  go_wp2_with fail
  obtain ⟨xi, ui⟩ := rset2 S1.out (.int .i64 x) (.int .i64 y)
  obtain ⟨p0, p1⟩ := cells2 xi
  refine bodyPost_ret (v := .agg #[.int .i64 x, .int .i64 y]) (by simp [results, Try.results17, go_sem, p0, p1]) rfl ⟨rfl, ?_⟩
  exact Y2.out.trans (ui.below (by omega))
end Go.Proofs.Ytlpnggdghmccjaa
end
section
open Go Go.RowKit
namespace RR
open WW BB
/-- what is answered of the state that is read, or of none -/
def ansR (o : Option (Int × Int)) : Int × Int × Int := match o with | some s => (s.1, s.2, 0) | none => (0, 0, 2)
theorem take_size {b : ByteArray} (h : b.size = 8) : (b.extract 0 4).size = 4 ∧ (b.extract 4 b.size).size = 4 := by
  rw [ByteArray.size_extract, ByteArray.size_extract]; omega
theorem near_in {n : Int} (h : 0 ≤ n ∧ n ≤ 1000000) : nearI n = n := by unfold nearI; omega
theorem near_out {n : Int} (h : 1000000 < n) : nearI n = 1000000 := by unfold nearI; omega
end RR
namespace Go.Proofs.Ytlpnggdghmccjaa
open RR FF WW BB
set_option maxRecDepth 100000 in
set_option maxHeartbeats 2000000 in
theorem read_short (b : ByteArray) (h8 : b.size ≠ 8) (w : World) : Calls Try.prog 11 #[.string b] w fun e w' => e = .returned (.tuple #[.agg #[.int .i64 0, .int .i64 0], .int .i64 2]) ∧ Below w.heap.size w w' := by
  have t1 : ((b.size : Int) == 8) = false := by rw [beq_eq_false_iff_ne]; omega
  have t2 : ¬ (b.size : Int) = 8 := by omega
  clear h8
  go_enter Try.func11, Try.ntmps11
  go_wp2_with fail
  refine bodyPost_ret (v := .tuple #[.agg #[.int .i64 0, .int .i64 0], .int .i64 2]) (by simp [results, Try.results11, go_sem]) rfl ⟨rfl, ?_⟩
  exact (Below.refl w.heap.size w).alloc (Nat.le_refl _) _
set_option maxRecDepth 100000 in
set_option maxHeartbeats 4000000 in
theorem read_full (b : ByteArray) (h8 : b.size = 8) (n m : Nat) (hn : rd4 (b.extract 0 4) = n) (hm : rd4 (b.extract 4 b.size) = m) (x y z : Int) (hz : ansR (if n ≤ 1000000 ∧ m ≤ 1000000 then some ((n : Int), (m : Int)) else none) = (x, y, z)) (w : World) :
    Calls Try.prog 11 #[.string b] w fun e w' => e = .returned (.tuple #[.agg #[.int .i64 x, .int .i64 y], .int .i64 z]) ∧ Below w.heap.size w w' := by
  obtain ⟨X, hX⟩ : ∃ X, b.extract 0 4 = X := ⟨_, rfl⟩
  obtain ⟨Y, hY⟩ : ∃ Y, b.extract 4 b.size = Y := ⟨_, rfl⟩
  have hY' : b.extract 4 8 = Y := by rw [← h8]; exact hY
  have H1 := Lib.hid (show X.size = 4 ∧ rd4 X = n from hX ▸ ⟨(take_size h8).1, hn⟩)
  have H2 := Lib.hid (show Y.size = 4 ∧ rd4 Y = m from hY ▸ ⟨(take_size h8).2, hm⟩)
  have HZ := Lib.hid hz
  have t0 : (b.size : Int) = 8 := by omega
  have t1 : ((b.size : Int) == 8) = true := by rw [beq_iff_eq]; omega
  have t2 : (4 : Int) ≤ (b.size : Int) := by omega
  have X1 := Lib.hid ((Below.refl w.heap.size w).alloc (Nat.le_refl _) (.cells #[.int .i64 0, .int .i64 0] 23))
  have R1 := Lib.hid (show Blk (w.alloc (.cells #[.int .i64 0, .int .i64 0] 23)) w.heap.size 2 (rowL [.int .i64 0, .int .i64 0]) from Blk.new' rfl (row2_ _ _))
  clear h8 hn hm hz
  go_enter Try.func11, Try.ntmps11
  go_upto_region 3 with fail
  obtain ⟨w0, hw0⟩ : ∃ w0, w.alloc (.cells #[.int .i64 0, .int .i64 0] 23) = w0 := ⟨_, rfl⟩
  rw [hw0] at X1 R1
  rw [hw0]
  clear hw0
  have hst : Below w0.heap.size w0 w0.drew := (Below.refl _ _).drew
  have hst2 : ∀ x y : Value, Below w0.heap.size w0 (w0.alloc (.cells #[x, y] 23)).drew := fun x y => ((Below.refl _ _).alloc (Nat.le_refl _) _).drew
  go_cut [4] from 9 to 15 (fun s wx => ∃ y, s = .pointer (some ⟨y, 0, none⟩) ∧ Blk wx y 2 (rowL [.int .i64 (n : Int), .int .i64 (m : Int)]) ∧ Below w0.heap.size w0 wx ∧ w0.heap.size ≤ y)
  case first =>
    go_wp2_with fail
    go_region_held3 (fun w' => Below w0.heap.size w0 w')
      (first | exact hst | exact hst2 _ _ | assumption)
      (first
        | (go_at_call 16; (with_reducible refine (rnum_is X n H1.out.1 H1.out.2 _).mono ?_); rintro e w1 ⟨rfl, rfl⟩)
        | (go_at_call 16; (with_reducible refine (rnum_is Y m H2.out.1 H2.out.2 _).mono ?_); rintro e w1 ⟨rfl, rfl⟩))
    all_goals
      go_wp2_with fail
      go_meet
      exact ⟨w0.heap.size, rfl, (Blk.new' (w := w0) (t := 23) rfl (row2_ (.int .i64 (n : Int)) (.int .i64 (m : Int)))).of_heap rfl, hst2 _ _, Nat.le_refl _⟩
  case rest =>
    obtain ⟨q, rfl, hy, hb, hl⟩ := hcut
    have HY := Lib.hid hy
    have YB := Lib.hid hb
    have YL := Lib.hid hl
    have HSC := Lib.hid (fun (wx : World) (h : Below wc.heap.size wc wx) => cells2 (HY.out.below h HY.out.lt))
    clear hy hb hl hst hst2 hX hY hY' t0 t1 t2
    go_wp2_with fail
    refine plan_abs (fun wx => Below wc.heap.size wc wx) [(true, 0), (true, 1), (false, 2), (true, 3)] (by kernel_rfl) (by kernel_rfl) (fun _ _ d _ _ h => by cases d <;> exact h) fun w5 hs5 => ⟨hs5.below _, ?_⟩
    have Z5 := Lib.hid (show Below wc.heap.size wc w5 from hs5.below _)
    clear hs5
    iterate 2 (refine pl_run _ ?_ rfl rfl ?_ ?_; rotate_left; (focus (intro w' hS; obtain ⟨d0, d1⟩ := HSC.out w' hS; go_simp; exact rfl)); simp only [Act.put, List.setIfInBounds_toArray, List.set_cons_zero, List.set_cons_succ, List.getElem_toArray, List.getElem_cons_zero, List.getElem_cons_succ])
    by_cases h1 : n ≤ 1000000
    · by_cases h2 : m ≤ 1000000
      · obtain ⟨rfl, rfl, rfl⟩ : (n : Int) = x ∧ (m : Int) = y ∧ 0 = z := by
          have := HZ.out
          rw [if_pos ⟨h1, h2⟩] at this
          exact ⟨congrArg (·.1) this, congrArg (·.2.1) this, congrArg (·.2.2) this⟩
        have HNB := Lib.hid (And.intro (near_in (n := (n : Int)) (by omega)) (near_in (n := (m : Int)) (by omega)))
        clear h1 h2
        refine pl_call1 (v := .agg #[.int .i64 (n : Int), .int .i64 (m : Int)]) (R := fun w' => Below w5.heap.size w5 w') _ rfl rfl (by go_simp) (bounded_is (n : Int) (m : Int) (n : Int) (m : Int) (HNB.out.1) (HNB.out.2) _) (fun w' h => Z5.out.trans (h.mono Z5.out.size)) fun w6 hb6 => ?_
        have Z6 := Lib.hid (Z5.out.trans (hb6.mono Z5.out.size))
        clear hb6
        simp only [Act.put, List.setIfInBounds_toArray, List.set_cons_zero, List.set_cons_succ, List.getElem_toArray, List.getElem_cons_zero, List.getElem_cons_succ]
        iterate 1 (refine pl_run _ ?_ rfl rfl ?_ ?_; rotate_left; (focus (intro w' hS; obtain ⟨d0, d1⟩ := HSC.out w' hS; go_simp; exact rfl)); simp only [Act.put, List.setIfInBounds_toArray, List.set_cons_zero, List.set_cons_succ, List.getElem_toArray, List.getElem_cons_zero, List.getElem_cons_succ])
        refine pl_end ?_
        obtain ⟨d0, d1⟩ := HSC.out w6 Z6.out
        have S1 := Lib.hid (R1.out.below (YB.out.trans (Z6.out.mono YB.out.size)) R1.out.lt)
        obtain ⟨e0, e1⟩ := cells2 S1.out
        have f0 := S1.out.frz 0
        have f1 := S1.out.frz 1
        go_wp2_with fail
        obtain ⟨xi, ui⟩ := rset2 S1.out (.int .i64 (n : Int)) (.int .i64 (m : Int))
        obtain ⟨p0, p1⟩ := cells2 xi
        refine bodyPost_ret (v := .tuple #[.agg #[.int .i64 (n : Int), .int .i64 (m : Int)], .int .i64 0]) (by simp [results, Try.results11, go_sem, p0, p1]) rfl ⟨rfl, ?_⟩
        exact (X1.out.trans ((YB.out.trans (Z6.out.mono YB.out.size)).mono X1.out.size)).trans (ui.below (Nat.le_refl _))
      · obtain ⟨rfl, rfl, rfl⟩ : 0 = x ∧ 0 = y ∧ 2 = z := by
          have := HZ.out
          rw [if_neg (fun h => h2 h.2)] at this
          exact ⟨congrArg (·.1) this, congrArg (·.2.1) this, congrArg (·.2.2) this⟩
        have HNB := Lib.hid (And.intro (near_in (n := (n : Int)) (by omega)) (near_out (n := (m : Int)) (by omega)))
        have hne : ¬ (m : Int) = 1000000 := by omega
        clear h1 h2
        refine pl_call1 (v := .agg #[.int .i64 (n : Int), .int .i64 1000000]) (R := fun w' => Below w5.heap.size w5 w') _ rfl rfl (by go_simp) (bounded_is (n : Int) (m : Int) (n : Int) 1000000 (HNB.out.1) (HNB.out.2) _) (fun w' h => Z5.out.trans (h.mono Z5.out.size)) fun w6 hb6 => ?_
        have Z6 := Lib.hid (Z5.out.trans (hb6.mono Z5.out.size))
        clear hb6
        simp only [Act.put, List.setIfInBounds_toArray, List.set_cons_zero, List.set_cons_succ, List.getElem_toArray, List.getElem_cons_zero, List.getElem_cons_succ]
        iterate 1 (refine pl_run _ ?_ rfl rfl ?_ ?_; rotate_left; (focus (intro w' hS; obtain ⟨d0, d1⟩ := HSC.out w' hS; go_simp; exact rfl)); simp only [Act.put, List.setIfInBounds_toArray, List.set_cons_zero, List.set_cons_succ, List.getElem_toArray, List.getElem_cons_zero, List.getElem_cons_succ])
        refine pl_end ?_
        obtain ⟨d0, d1⟩ := HSC.out w6 Z6.out
        have S1 := Lib.hid (R1.out.below (YB.out.trans (Z6.out.mono YB.out.size)) R1.out.lt)
        obtain ⟨e0, e1⟩ := cells2 S1.out
        have f0 := S1.out.frz 0
        have f1 := S1.out.frz 1
        go_wp2_with fail
        obtain ⟨xi, ui⟩ := rset2 S1.out (.int .i64 0) (.int .i64 0)
        obtain ⟨p0, p1⟩ := cells2 xi
        refine bodyPost_ret (v := .tuple #[.agg #[.int .i64 0, .int .i64 0], .int .i64 2]) (by simp [results, Try.results11, go_sem, p0, p1]) rfl ⟨rfl, ?_⟩
        exact (X1.out.trans ((YB.out.trans (Z6.out.mono YB.out.size)).mono X1.out.size)).trans (ui.below (Nat.le_refl _))
    · obtain ⟨rfl, rfl, rfl⟩ : 0 = x ∧ 0 = y ∧ 2 = z := by
        have := HZ.out
        rw [if_neg (fun h => h1 h.1)] at this
        exact ⟨congrArg (·.1) this, congrArg (·.2.1) this, congrArg (·.2.2) this⟩
      have hne : ¬ (n : Int) = 1000000 := by omega
      obtain ⟨y', hy'⟩ : ∃ y', nearI (m : Int) = y' := ⟨_, rfl⟩
      have HNB := Lib.hid (And.intro (near_out (n := (n : Int)) (by omega)) hy')
      clear h1 hy'
      refine pl_call1 (v := .agg #[.int .i64 1000000, .int .i64 y']) (R := fun w' => Below w5.heap.size w5 w') _ rfl rfl (by go_simp) (bounded_is (n : Int) (m : Int) 1000000 y' (HNB.out.1) (HNB.out.2) _) (fun w' h => Z5.out.trans (h.mono Z5.out.size)) fun w6 hb6 => ?_
      have Z6 := Lib.hid (Z5.out.trans (hb6.mono Z5.out.size))
      clear hb6
      simp only [Act.put, List.setIfInBounds_toArray, List.set_cons_zero, List.set_cons_succ, List.getElem_toArray, List.getElem_cons_zero, List.getElem_cons_succ]
      iterate 1 (refine pl_run _ ?_ rfl rfl ?_ ?_; rotate_left; (focus (intro w' hS; obtain ⟨d0, d1⟩ := HSC.out w' hS; go_simp; exact rfl)); simp only [Act.put, List.setIfInBounds_toArray, List.set_cons_zero, List.set_cons_succ, List.getElem_toArray, List.getElem_cons_zero, List.getElem_cons_succ])
      refine pl_end ?_
      obtain ⟨d0, d1⟩ := HSC.out w6 Z6.out
      have S1 := Lib.hid (R1.out.below (YB.out.trans (Z6.out.mono YB.out.size)) R1.out.lt)
      obtain ⟨e0, e1⟩ := cells2 S1.out
      have f0 := S1.out.frz 0
      have f1 := S1.out.frz 1
      go_wp2_with fail
      obtain ⟨xi, ui⟩ := rset2 S1.out (.int .i64 0) (.int .i64 0)
      obtain ⟨p0, p1⟩ := cells2 xi
      refine bodyPost_ret (v := .tuple #[.agg #[.int .i64 0, .int .i64 0], .int .i64 2]) (by simp [results, Try.results11, go_sem, p0, p1]) rfl ⟨rfl, ?_⟩
      exact (X1.out.trans ((YB.out.trans (Z6.out.mono YB.out.size)).mono X1.out.size)).trans (ui.below (Nat.le_refl _))
end Go.Proofs.Ytlpnggdghmccjaa
end
section
open Go Go.RowKit
namespace Go.Proofs.Ytlpnggdghmccjaa
open RR FF WW BB
section
variable (s1 s2 v p j : Int) (k : ByteArray) (a0 : Option Addr) (n0 c0 : Nat) (a1 : Option Addr) (n1 c1 : Nat)
set_option maxRecDepth 100000 in
set_option maxHeartbeats 2000000 in
theorem may_is (m : Bool) (hm : mayB (s1, s2) v j = m) (w : World) :
    Calls Try.prog 9 #[.agg #[.int .i64 s1, .int .i64 s2], .agg #[.int .i64 v, .int .i64 p, .int .i64 j, .string k, .slice a0 n0 c0, .slice a1 n1 c1]] w fun e w' => e = .returned (.bool m) ∧ Below w.heap.size w w' := by
  have X2 := Lib.hid (((Below.refl w.heap.size w).alloc (Nat.le_refl _) (.cells #[.int .i64 s1, .int .i64 s2] 23)).alloc (by simp) (.cells #[.int .i64 v, .int .i64 p, .int .i64 j, .string k, .slice a0 n0 c0, .slice a1 n1 c1] 33))
  unfold mayB at hm
  by_cases h1 : s1 < v
  · have t1 : decide (s1 < v) = true := decide_eq_true h1
    by_cases h2 : s2 ≤ j
    · have t2 : decide (s2 ≤ j) = true := decide_eq_true h2
      obtain rfl : true = m := by rw [← hm]; simp [h1, h2]
      clear hm h1 h2
      go_enter Try.func9, Try.ntmps9
      go_wp2_with fail
      go_ret
      exact ⟨rfl, X2.out⟩
    · have t2 : decide (s2 ≤ j) = false := decide_eq_false h2
      obtain rfl : false = m := by rw [← hm]; simp [h2]
      clear hm h1 h2
      go_enter Try.func9, Try.ntmps9
      go_wp2_with fail
      go_ret
      exact ⟨rfl, X2.out⟩
  · have t1 : decide (s1 < v) = false := decide_eq_false h1
    obtain rfl : false = m := by rw [← hm]; simp [h1]
    clear hm h1
    go_enter Try.func9, Try.ntmps9
    go_wp2_with fail
    go_ret
    exact ⟨rfl, X2.out⟩
set_option maxRecDepth 100000 in
set_option maxHeartbeats 2000000 in
theorem voted_is (t1 t2 : Int) (ht : voteS (s1, s2) v j = (t1, t2)) (w : World) :
    Calls Try.prog 14 #[.agg #[.int .i64 s1, .int .i64 s2], .agg #[.int .i64 v, .int .i64 p, .int .i64 j, .string k, .slice a0 n0 c0, .slice a1 n1 c1]] w fun e w' => e = .returned (.agg #[.int .i64 t1, .int .i64 t2]) ∧ Below w.heap.size w w' := by
  have X3 := Lib.hid ((((Below.refl w.heap.size w).alloc (Nat.le_refl _) (.cells #[.int .i64 s1, .int .i64 s2] 23)).alloc (by simp) (.cells #[.int .i64 v, .int .i64 p, .int .i64 j, .string k, .slice a0 n0 c0, .slice a1 n1 c1] 33)).alloc (by simp; omega) (.cells #[.int .i64 0, .int .i64 0] 23))
  have B0 := Lib.hid (show Blk (((w.alloc (.cells #[.int .i64 s1, .int .i64 s2] 23)).alloc (.cells #[.int .i64 v, .int .i64 p, .int .i64 j, .string k, .slice a0 n0 c0, .slice a1 n1 c1] 33)).alloc (.cells #[.int .i64 0, .int .i64 0] 23)) w.heap.size 2 (rowL [.int .i64 s1, .int .i64 s2]) from ((Blk.new' rfl (row2_ _ _)).alloc _).alloc _)
  have B1 := Lib.hid (show Blk (((w.alloc (.cells #[.int .i64 s1, .int .i64 s2] 23)).alloc (.cells #[.int .i64 v, .int .i64 p, .int .i64 j, .string k, .slice a0 n0 c0, .slice a1 n1 c1] 33)).alloc (.cells #[.int .i64 0, .int .i64 0] 23)) (w.heap.size + 1) 6 (rowL [.int .i64 v, .int .i64 p, .int .i64 j, .string k, .slice a0 n0 c0, .slice a1 n1 c1]) from (Blk.new' (by simp) (row6_ _ _ _ _ _ _)).alloc _)
  have B2 := Lib.hid (show Blk (((w.alloc (.cells #[.int .i64 s1, .int .i64 s2] 23)).alloc (.cells #[.int .i64 v, .int .i64 p, .int .i64 j, .string k, .slice a0 n0 c0, .slice a1 n1 c1] 33)).alloc (.cells #[.int .i64 0, .int .i64 0] 23)) (w.heap.size + 1 + 1) 2 (rowL [.int .i64 0, .int .i64 0]) from Blk.new' (by simp) (row2_ _ _))
  obtain ⟨q, hq⟩ : ∃ q, w.heap.size = q := ⟨_, rfl⟩
  have HQ := Lib.hid hq
  obtain ⟨m, hm⟩ : ∃ m, mayB (s1, s2) v j = m := ⟨_, rfl⟩
  have HM := Lib.hid hm
  have HT := Lib.hid ht
  clear hq hm ht
  go_enter Try.func14, Try.ntmps14
  go_wp2_with fail
  refine (may_is s1 s2 v p j k a0 n0 c0 a1 n1 c1 m HM.out _).mono ?_
  rintro e w2 ⟨rfl, hb2⟩
  have X4 := Lib.hid (X3.out.trans (hb2.mono X3.out.size))
  have C0 := Lib.hid (B0.out.below hb2 B0.out.lt)
  have C1 := Lib.hid (B1.out.below hb2 B1.out.lt)
  have C2 := Lib.hid (B2.out.below hb2 B2.out.lt)
  clear hb2
  obtain ⟨d0, d1⟩ := cells2 C0.out
  obtain ⟨d2, _, d3, _, _, _⟩ := cells6 C1.out
  obtain ⟨d4, d5⟩ := cells2 C2.out
  have f0 := C0.out.frz 0
  have f1 := C2.out.frz 0
  have f2 := C2.out.frz 1
  cases m with
  | true =>
    have e1 : t1 = v ∧ t2 = s2 := by
      have := HT.out
      rw [vote_yes HM.out] at this
      injection this with h1 h2
      exact ⟨h1.symm, h2.symm⟩
    obtain ⟨rfl, rfl⟩ := e1
    go_wp2_with fail
    obtain ⟨xi, ui⟩ := rset2 (C2.out.set_other ⟨w.heap.size, 0, none⟩ (.int .i64 t1) (show w.heap.size + 1 + 1 ≠ w.heap.size by omega)) (.int .i64 t1) (.int .i64 t2)
    obtain ⟨p0, p1⟩ := cells2 xi
    refine bodyPost_ret (v := .agg #[.int .i64 t1, .int .i64 t2]) (by simp [results, Try.results14, go_sem, p0, p1]) rfl ⟨rfl, ?_⟩
    exact X4.out.trans (((Upd.set _ _ _ _).below (Nat.le_refl _)).trans (ui.below (by omega)))
  | false =>
    have e1 : t1 = s1 ∧ t2 = s2 := by
      have := HT.out
      rw [vote_no HM.out] at this
      injection this with h1 h2
      exact ⟨h1.symm, h2.symm⟩
    obtain ⟨rfl, rfl⟩ := e1
    go_wp2_with fail
    obtain ⟨xi, ui⟩ := rset2 C2.out (.int .i64 t1) (.int .i64 t2)
    obtain ⟨p0, p1⟩ := cells2 xi
    refine bodyPost_ret (v := .agg #[.int .i64 t1, .int .i64 t2]) (by simp [results, Try.results14, go_sem, p0, p1]) rfl ⟨rfl, ?_⟩
    exact X4.out.trans (ui.below (by omega))
set_option maxRecDepth 100000 in
set_option maxHeartbeats 2000000 in
theorem vote_is (t1 t2 : Int) (ht : voteS (s1, s2) v j = (t1, t2)) (m : Bool) (hm : mayB (s1, s2) v j = m) (w : World) :
    Calls Try.prog 8 #[.agg #[.int .i64 s1, .int .i64 s2], .agg #[.int .i64 v, .int .i64 p, .int .i64 j, .string k, .slice a0 n0 c0, .slice a1 n1 c1]] w fun e w' => e = .returned (.tuple #[.agg #[.int .i64 t1, .int .i64 t2], .bool m]) ∧ Below w.heap.size w w' := by
  have X3 := Lib.hid ((((Below.refl w.heap.size w).alloc (Nat.le_refl _) (.cells #[.int .i64 s1, .int .i64 s2] 23)).alloc (by simp) (.cells #[.int .i64 v, .int .i64 p, .int .i64 j, .string k, .slice a0 n0 c0, .slice a1 n1 c1] 33)).alloc (by simp; omega) (.cells #[.int .i64 0, .int .i64 0] 23))
  have B0 := Lib.hid (show Blk (((w.alloc (.cells #[.int .i64 s1, .int .i64 s2] 23)).alloc (.cells #[.int .i64 v, .int .i64 p, .int .i64 j, .string k, .slice a0 n0 c0, .slice a1 n1 c1] 33)).alloc (.cells #[.int .i64 0, .int .i64 0] 23)) w.heap.size 2 (rowL [.int .i64 s1, .int .i64 s2]) from ((Blk.new' rfl (row2_ _ _)).alloc _).alloc _)
  have B2 := Lib.hid (show Blk (((w.alloc (.cells #[.int .i64 s1, .int .i64 s2] 23)).alloc (.cells #[.int .i64 v, .int .i64 p, .int .i64 j, .string k, .slice a0 n0 c0, .slice a1 n1 c1] 33)).alloc (.cells #[.int .i64 0, .int .i64 0] 23)) (w.heap.size + 1 + 1) 2 (rowL [.int .i64 0, .int .i64 0]) from Blk.new' (by simp) (row2_ _ _))
  have HT := Lib.hid ht
  have HM := Lib.hid hm
  have T9 := Lib.hid (show (m = true ∧ ¬ t1 = s1) ∨ (m = false ∧ s1 = t1 ∧ s2 = t2) from by
    cases m with
    | true =>
      rw [vote_yes hm] at ht
      injection ht with h1 h2
      have := (may_yes hm).1
      exact Or.inl ⟨rfl, by simp only at this; omega⟩
    | false =>
      rw [vote_no hm] at ht
      injection ht with h1 h2
      exact Or.inr ⟨rfl, h1, h2⟩)
  clear ht hm
  go_enter Try.func8, Try.ntmps8
  go_wp2_with fail
  refine (voted_is s1 s2 v p j k a0 n0 c0 a1 n1 c1 t1 t2 HT.out _).mono ?_
  rintro e w2 ⟨rfl, hb2⟩
  have X4 := Lib.hid ((X3.out.trans (hb2.mono X3.out.size)).alloc (Nat.le_trans X3.out.size hb2.size) (.cells #[.int .i64 t1, .int .i64 t2] 23))
  have C0 := Lib.hid ((B0.out.below hb2 B0.out.lt).alloc (.cells #[.int .i64 t1, .int .i64 t2] 23))
  have C2 := Lib.hid ((B2.out.below hb2 B2.out.lt).alloc (.cells #[.int .i64 t1, .int .i64 t2] 23))
  have C3 := Lib.hid (show Blk (w2.alloc (.cells #[.int .i64 t1, .int .i64 t2] 23)) w2.heap.size 2 (rowL [.int .i64 t1, .int .i64 t2]) from Blk.new' rfl (row2_ _ _))
  have HSZ0 := Lib.hid (show w.heap.size + 1 + 1 < w2.heap.size from Nat.lt_of_lt_of_le B2.out.lt hb2.size)
  clear hb2
  obtain ⟨d0, d1⟩ := cells2 C0.out
  obtain ⟨d4, d5⟩ := cells2 C2.out
  obtain ⟨d6, d7⟩ := cells2 C3.out
  have f1 := C2.out.frz 0
  have f2 := C2.out.frz 1
  go_wp2_with fail
  refine plan_abs (fun wx => Blk wx w.heap.size 2 (rowL [.int .i64 s1, .int .i64 s2]) ∧ Blk wx w2.heap.size 2 (rowL [.int .i64 t1, .int .i64 t2])) [(true, 0), (true, 1), (true, 2), (true, 3), (false, 4), (true, 5)] (by kernel_rfl) (by kernel_rfl) (fun _ _ d _ _ h => by cases d <;> exact h) fun w5 hs5 => ⟨⟨C0.out.same hs5, C3.out.same hs5⟩, ?_⟩
  have D2 := Lib.hid (C2.out.same hs5)
  have X5 := Lib.hid (X4.out.trans (hs5.below _))
  have D0 := Lib.hid (C0.out.same hs5)
  have D3 := Lib.hid (C3.out.same hs5)
  clear hs5 d0 d1 d4 d5 d6 d7 f1 f2
  have HSZ := Lib.hid (show w.heap.size + 1 + 1 < w2.heap.size from HSZ0.out)
  rcases T9.out with ⟨rfl, hne⟩ | ⟨rfl, rfl, rfl⟩
  · iterate 4 (refine pl_run _ ?_ rfl rfl ?_ ?_; rotate_left; (focus (intro w' hS; obtain ⟨h0, h1⟩ := hS; obtain ⟨c0, c1⟩ := cells2 h0; obtain ⟨c2, c3⟩ := cells2 h1; go_simp; exact rfl)); simp only [Act.put, List.setIfInBounds_toArray, List.set_cons_zero, List.set_cons_succ, List.getElem_toArray, List.getElem_cons_zero, List.getElem_cons_succ])
    obtain ⟨d4, d5⟩ := cells2 D2.out
    have f1 := D2.out.frz 0
    have f2 := D2.out.frz 1
    obtain ⟨xi, ui⟩ := rset2 D2.out (.int .i64 t1) (.int .i64 t2)
    obtain ⟨p0, p1⟩ := cells2 xi
    refine pl_store _ rfl rfl (by go_simp) ⟨D0.out.upd ui (by omega), D3.out.upd ui (by have := HSZ.out; omega)⟩ ?_
    simp only [Act.put, List.getElem_toArray, List.getElem_cons_zero, List.getElem_cons_succ]
    refine pl_run _ ?_ rfl rfl ?_ ?_
    rotate_left
    · intro w' hS
      go_simp
      exact rfl
    simp only [Act.put, List.setIfInBounds_toArray, List.set_cons_zero, List.set_cons_succ, List.getElem_toArray, List.getElem_cons_zero, List.getElem_cons_succ]
    refine pl_end ?_
    clear d4 d5 f1 f2
    go_wp2_with fail
    refine bodyPost_ret (v := .tuple #[.agg #[.int .i64 t1, .int .i64 t2], .bool true]) (by simp [results, Try.results8, go_sem, p0, p1]) rfl ⟨rfl, ?_⟩
    exact X5.out.trans (ui.below (by omega))
  · iterate 4 (refine pl_run _ ?_ rfl rfl ?_ ?_; rotate_left; (focus (intro w' hS; obtain ⟨h0, h1⟩ := hS; obtain ⟨c0, c1⟩ := cells2 h0; obtain ⟨c2, c3⟩ := cells2 h1; go_simp; exact rfl)); simp only [Act.put, List.setIfInBounds_toArray, List.set_cons_zero, List.set_cons_succ, List.getElem_toArray, List.getElem_cons_zero, List.getElem_cons_succ])
    obtain ⟨d4, d5⟩ := cells2 D2.out
    have f1 := D2.out.frz 0
    have f2 := D2.out.frz 1
    obtain ⟨xi, ui⟩ := rset2 D2.out (.int .i64 s1) (.int .i64 s2)
    obtain ⟨p0, p1⟩ := cells2 xi
    refine pl_store _ rfl rfl (by go_simp) ⟨D0.out.upd ui (by omega), D3.out.upd ui (by have := HSZ.out; omega)⟩ ?_
    simp only [Act.put, List.getElem_toArray, List.getElem_cons_zero, List.getElem_cons_succ]
    refine pl_run _ ?_ rfl rfl ?_ ?_
    rotate_left
    · intro w' hS
      go_simp
      exact rfl
    simp only [Act.put, List.setIfInBounds_toArray, List.set_cons_zero, List.set_cons_succ, List.getElem_toArray, List.getElem_cons_zero, List.getElem_cons_succ]
    refine pl_end ?_
    clear d4 d5 f1 f2
    go_wp2_with fail
    refine bodyPost_ret (v := .tuple #[.agg #[.int .i64 s1, .int .i64 s2], .bool false]) (by simp [results, Try.results8, go_sem, p0, p1]) rfl ⟨rfl, ?_⟩
    exact X5.out.trans (ui.below (by omega))
end
end Go.Proofs.Ytlpnggdghmccjaa
end
section
open Go Go.RowKit
namespace Go.Proofs.Ytlpnggdghmccjaa
open RR WW BB
set_option maxRecDepth 100000 in
set_option maxHeartbeats 1000000 in
theorem rawake_any (w : World) : Calls Try.prog 6 #[] w fun e w' => e = .returned (.bool true) ∧ Below w.heap.size w w' := by
  go_enter Try.func6, Try.ntmps6
  go_wp2_with fail
  refine (may_is 0 0 1 0 0 ⟨#[]⟩ none 0 0 none 0 0 true (by decide) _).mono ?_
  rintro e w2 ⟨rfl, hb2⟩
  go_wp2_with fail
  go_ret
  exact ⟨rfl, hb2⟩
end Go.Proofs.Ytlpnggdghmccjaa
end
section
open Go Go.RowKit
namespace RR
open FF WW BB
def goodB (v l : Int) : Bool := decide (0 ≤ v) && decide (v ≤ 1000000) && decide (0 ≤ l) && decide (l ≤ 1000000)
theorem good_iff (v l : Int) : goodB v l = true ↔ 0 ≤ v ∧ v ≤ 1000000 ∧ 0 ≤ l ∧ l ≤ 1000000 := by
  unfold goodB
  simp only [Bool.and_eq_true, decide_eq_true_eq, and_assoc]
end RR
namespace Go.Proofs.Ytlpnggdghmccjaa
open RR FF WW BB
theorem read_is (b : ByteArray) (x y z : Int) (hz : ansR (readS b) = (x, y, z)) (w : World) : Calls Try.prog 11 #[.string b] w fun e w' => e = .returned (.tuple #[.agg #[.int .i64 x, .int .i64 y], .int .i64 z]) ∧ Below w.heap.size w w' := by
  by_cases h8 : b.size = 8
  · unfold readS at hz
    rw [if_pos h8] at hz
    exact read_full b h8 _ _ rfl rfl x y z hz w
  · have e : readS b = none := by unfold readS; exact if_neg h8
    rw [e] at hz
    obtain ⟨rfl, rfl, rfl⟩ : 0 = x ∧ 0 = y ∧ 2 = z := ⟨congrArg (·.1) hz, congrArg (·.2.1) hz, congrArg (·.2.2) hz⟩
    exact read_short b h8 w
set_option maxRecDepth 100000 in
set_option maxHeartbeats 8000000 in
theorem lawB_any (v l : Int) (b : ByteArray) (w : World) : Calls Try.prog 5 #[.agg #[.int .i64 v, .int .i64 l], .string b] w fun e w' => e = .returned (.bool true) ∧ Below w.heap.size w w' := by
  have X0 := Lib.hid ((Below.refl w.heap.size w).alloc (Nat.le_refl _) (.cells #[.int .i64 v, .int .i64 l] 23))
  have B0 := Lib.hid (show Blk (w.alloc (.cells #[.int .i64 v, .int .i64 l] 23)) w.heap.size 2 (rowL [.int .i64 v, .int .i64 l]) from Blk.new' rfl (row2_ _ _))
  by_cases h20 : b.size ≤ 20
  · have t1 : decide ((20 : Int) < (b.size : Int)) = false := decide_eq_false (by omega)
    clear h20
    obtain ⟨⟨x1, y1, z1⟩, hr1⟩ : ∃ R, ansR (readS (bytesS v l)) = R := ⟨_, rfl⟩
    obtain ⟨⟨x2, y2, z2⟩, hr2⟩ : ∃ R, ansR (readS b) = R := ⟨_, rfl⟩
    have HR1 := Lib.hid hr1
    have HR2 := Lib.hid hr2
    obtain ⟨G, hG⟩ : ∃ G, goodB v l = G := ⟨_, rfl⟩
    have HG := Lib.hid hG
    have HGD := Lib.hid (show G = true → v = x1 ∧ l = y1 ∧ z1 = 0 from fun h => by
      subst h
      rw [read_bytes ((good_iff v l).1 hG)] at hr1
      exact ⟨congrArg (·.1) hr1, congrArg (·.2.1) hr1, (congrArg (·.2.2) hr1).symm⟩)
    have HBD := Lib.hid (show (z2 = 2 ∧ x2 = 0 ∧ y2 = 0) ∨ (z2 = 0 ∧ bytesS x2 y2 = b ∧ x2 ≤ 1000000 ∧ y2 ≤ 1000000) from by
      cases hs : readS b with
      | none =>
        rw [hs] at hr2
        exact Or.inl ⟨(congrArg (·.2.2) hr2).symm, (congrArg (·.1) hr2).symm, (congrArg (·.2.1) hr2).symm⟩
      | some s =>
        rw [hs] at hr2
        obtain ⟨rfl, rfl, rfl⟩ : s.1 = x2 ∧ s.2 = y2 ∧ 0 = z2 := ⟨congrArg (·.1) hr2, congrArg (·.2.1) hr2, congrArg (·.2.2) hr2⟩
        exact Or.inr ⟨rfl, read_sound hs⟩)
    clear hr1 hr2 hG
    go_enter Try.func5, Try.ntmps5
    go_wp2_with fail
    refine (rawake_any _).mono ?_
    rintro e w1 ⟨rfl, hb1⟩
    have X1 := Lib.hid (X0.out.trans (hb1.mono X0.out.size))
    have B1 := Lib.hid (B0.out.below hb1 B0.out.lt)
    clear hb1
    obtain ⟨d0, d1⟩ := cells2 B1.out
    go_wp2_with fail
    refine (bytes_any v l _).mono ?_
    rintro e w2 ⟨rfl, hb2⟩
    have X2 := Lib.hid (X1.out.trans (hb2.mono X1.out.size))
    have B2 := Lib.hid (B1.out.below hb2 B1.out.lt)
    clear hb2 d0 d1
    obtain ⟨T, hT⟩ : ∃ T, bytesS v l = T := ⟨_, rfl⟩
    rw [hT] at HR1 ⊢
    have HT := Lib.hid hT
    clear hT
    go_wp2_with fail
    refine (read_is T x1 y1 z1 HR1.out _).mono ?_
    rintro e w3 ⟨rfl, hb3⟩
    have X3 := Lib.hid ((X2.out.trans (hb3.mono X2.out.size)).alloc (Nat.le_trans X2.out.size hb3.size) (.cells #[.int .i64 x1, .int .i64 y1] 23))
    have B3 := Lib.hid ((B2.out.below hb3 B2.out.lt).alloc (.cells #[.int .i64 x1, .int .i64 y1] 23))
    have C3 := Lib.hid (show Blk (w3.alloc (.cells #[.int .i64 x1, .int .i64 y1] 23)) w3.heap.size 2 (rowL [.int .i64 x1, .int .i64 y1]) from Blk.new' rfl (row2_ _ _))
    clear hb3
    go_wp2_with fail
    refine (read_is b x2 y2 z2 HR2.out _).mono ?_
    rintro e w4 ⟨rfl, hb4⟩
    have X4 := Lib.hid ((X3.out.trans (hb4.mono X3.out.size)).alloc (Nat.le_trans X3.out.size hb4.size) (.cells #[.int .i64 x2, .int .i64 y2] 23))
    have B4 := Lib.hid ((B3.out.below hb4 B3.out.lt).alloc (.cells #[.int .i64 x2, .int .i64 y2] 23))
    have C4 := Lib.hid ((C3.out.below hb4 C3.out.lt).alloc (.cells #[.int .i64 x2, .int .i64 y2] 23))
    have D4 := Lib.hid (show Blk (w4.alloc (.cells #[.int .i64 x2, .int .i64 y2] 23)) w4.heap.size 2 (rowL [.int .i64 x2, .int .i64 y2]) from Blk.new' rfl (row2_ _ _))
    clear hb4
    go_upto_region 6 with fail
    obtain ⟨w5, hw5⟩ : ∃ w5, w4.alloc (.cells #[.int .i64 x2, .int .i64 y2] 23) = w5 := ⟨_, rfl⟩
    rw [hw5] at X4 B4 C4 D4
    rw [hw5]
    clear hw5
    go_cut [10] from 31 to 48 (fun s wx => s = .bool G ∧ w5 = wx)
    case first =>
      obtain ⟨d0, d1⟩ := cells2 B4.out
      have h := HG.out
      unfold goodB at h
      by_cases h1 : 0 ≤ v
      · have u1 : decide (0 ≤ v) = true := decide_eq_true h1
        by_cases h2 : v ≤ 1000000
        · have u2 : decide (v ≤ 1000000) = true := decide_eq_true h2
          by_cases h3 : 0 ≤ l
          · have u3 : decide (0 ≤ l) = true := decide_eq_true h3
            by_cases h4 : l ≤ 1000000
            · have u4 : decide (l ≤ 1000000) = true := decide_eq_true h4
              obtain rfl : true = G := by rw [← h, u1, u2, u3, u4]; rfl
              clear h h1 h2 h3 h4
              go_wp2_with fail
              go_meet
              exact ⟨rfl, rfl⟩
            · have u4 : decide (l ≤ 1000000) = false := decide_eq_false h4
              obtain rfl : false = G := by rw [← h, u4, Bool.and_false]
              clear h h1 h2 h3 h4
              go_wp2_with fail
              go_meet
              exact ⟨rfl, rfl⟩
          · have u3 : decide (0 ≤ l) = false := decide_eq_false h3
            obtain rfl : false = G := by rw [← h, u3, Bool.and_false, Bool.false_and]
            clear h h1 h2 h3
            go_wp2_with fail
            go_meet
            exact ⟨rfl, rfl⟩
        · have u2 : decide (v ≤ 1000000) = false := decide_eq_false h2
          obtain rfl : false = G := by rw [← h, u2, Bool.and_false, Bool.false_and, Bool.false_and]
          clear h h1 h2
          go_wp2_with fail
          go_meet
          exact ⟨rfl, rfl⟩
      · have u1 : decide (0 ≤ v) = false := decide_eq_false h1
        obtain rfl : false = G := by rw [← h, u1, Bool.false_and, Bool.false_and, Bool.false_and]
        clear h h1
        go_wp2_with fail
        go_meet
        exact ⟨rfl, rfl⟩
    case rest =>
      obtain ⟨rfl, rfl⟩ := hcut
      obtain ⟨d0, d1⟩ := cells2 B4.out
      go_wp2_with fail
      refine (rbytes_any v l _).mono ?_
      rintro e w6 ⟨rfl, hb6⟩
      rw [HT.out]
      have X6 := Lib.hid (X4.out.trans (hb6.mono X4.out.size))
      have B6 := Lib.hid (B4.out.below hb6 B4.out.lt)
      have C6 := Lib.hid (C4.out.below hb6 C4.out.lt)
      have D6 := Lib.hid (D4.out.below hb6 D4.out.lt)
      clear hb6 d0 d1
      obtain ⟨d0, d1⟩ := cells2 B6.out
      obtain ⟨e0, e1⟩ := cells2 C6.out
      obtain ⟨f0, f1⟩ := cells2 D6.out
      cases G with
      | true =>
        obtain ⟨rfl, rfl, rfl⟩ := HGD.out rfl
        rcases HBD.out with ⟨rfl, rfl, rfl⟩ | ⟨rfl, hbb, hx2, hy2⟩
        · go_wp2_with fail
          go_ret
          exact ⟨rfl, X6.out⟩
        · have HBB := Lib.hid hbb
          have u1 : decide (x2 ≤ 1000000) = true := decide_eq_true hx2
          have u2 : decide (y2 ≤ 1000000) = true := decide_eq_true hy2
          clear hbb hx2 hy2
          go_wp2_with fail
          refine (rbytes_any x2 y2 _).mono ?_
          rintro e w7 ⟨rfl, hb7⟩
          rw [HBB.out]
          have X7 := Lib.hid (X6.out.trans (hb7.mono X6.out.size))
          have D7 := Lib.hid (D6.out.below hb7 D6.out.lt)
          clear hb7 d0 d1 e0 e1 f0 f1
          obtain ⟨f0, f1⟩ := cells2 D7.out
          go_wp2_with fail
          go_ret
          exact ⟨rfl, X7.out⟩
      | false =>
        rcases HBD.out with ⟨rfl, rfl, rfl⟩ | ⟨rfl, hbb, hx2, hy2⟩
        · go_wp2_with fail
          go_ret
          exact ⟨rfl, X6.out⟩
        · have HBB := Lib.hid hbb
          have u1 : decide (x2 ≤ 1000000) = true := decide_eq_true hx2
          have u2 : decide (y2 ≤ 1000000) = true := decide_eq_true hy2
          clear hbb hx2 hy2
          go_wp2_with fail
          refine (rbytes_any x2 y2 _).mono ?_
          rintro e w7 ⟨rfl, hb7⟩
          rw [HBB.out]
          have X7 := Lib.hid (X6.out.trans (hb7.mono X6.out.size))
          have D7 := Lib.hid (D6.out.below hb7 D6.out.lt)
          clear hb7 d0 d1 e0 e1 f0 f1
          obtain ⟨f0, f1⟩ := cells2 D7.out
          go_wp2_with fail
          go_ret
          exact ⟨rfl, X7.out⟩
  · have t1 : decide ((20 : Int) < (b.size : Int)) = true := decide_eq_true (by omega)
    clear h20
    go_enter Try.func5, Try.ntmps5
    go_wp2_with fail
    refine (rawake_any _).mono ?_
    rintro e w1 ⟨rfl, hb1⟩
    have X1 := Lib.hid (X0.out.trans (hb1.mono X0.out.size))
    clear hb1
    go_wp2_with fail
    refine (rawake_any _).mono ?_
    rintro e w2 ⟨rfl, hb2⟩
    have X2 := Lib.hid (X1.out.trans (hb2.mono X1.out.size))
    clear hb2
    go_wp2_with fail
    go_ret
    exact ⟨rfl, X2.out⟩
end Go.Proofs.Ytlpnggdghmccjaa
end
section
open Go Go.RowKit
namespace Go.Proofs.Ytlpnggdghmccjaa
open RR FF WW BB
theorem rfew_is (v p cv : Int) (k : ByteArray) (sv rv : Value) (l : List (Int × List ByteArray)) (m : List (Int × Int × ByteArray)) (b : Bool) (hb : fewBlock k l m = b) (w : World) (hv : SigsAt w sv l) (hr : ReqsAt w rv m) (hn : MemS l) (hk : k.size ≤ 9223372036854775807) (hm : m.length ≤ 9223372036854775807) :
    Calls Try.prog 7 #[.agg #[.int .i64 v, .int .i64 p, .int .i64 cv, .string k, sv, rv]] w fun e w' => e = .returned (.bool b) ∧ Below w.heap.size w w' := hb ▸ fewblock_any v p cv k sv rv l m w hv hr hn hk hm
set_option maxRecDepth 100000 in
set_option maxHeartbeats 8000000 in
theorem lawV_any (s1 s2 v p j : Int) (k : ByteArray) (sv rv : Value) (l : List (Int × List ByteArray)) (m : List (Int × Int × ByteArray)) (v' p' j' : Int) (k' : ByteArray) (sv' rv' : Value) (l' : List (Int × List ByteArray)) (m' : List (Int × Int × ByteArray)) (w : World)
    (hs : SigsAt w sv l) (hr : ReqsAt w rv m) (hn : MemS l) (hk : k.size ≤ 9223372036854775807) (hm : m.length ≤ 9223372036854775807) (hs' : SigsAt w sv' l') (hr' : ReqsAt w rv' m') (hn' : MemS l') (hk' : k'.size ≤ 9223372036854775807) (hm' : m'.length ≤ 9223372036854775807) :
    Calls Try.prog 4 #[.agg #[.int .i64 s1, .int .i64 s2], .agg #[.int .i64 v, .int .i64 p, .int .i64 j, .string k, sv, rv], .agg #[.int .i64 v', .int .i64 p', .int .i64 j', .string k', sv', rv']] w fun e w' => e = .returned (.bool true) ∧ Below w.heap.size w w' := by
  have HL := Lib.hid hm
  have HL' := Lib.hid hm'
  have HS := Lib.hid (And.intro hs (And.intro hr (And.intro hn (And.intro hk hm))))
  have HS' := Lib.hid (And.intro hs' (And.intro hr' (And.intro hn' (And.intro hk' hm'))))
  obtain ⟨a0, c0, rfl, _⟩ := hs
  obtain ⟨a1, c1, rfl, _⟩ := hr
  obtain ⟨a0', c0', rfl, _⟩ := hs'
  obtain ⟨a1', c1', rfl, _⟩ := hr'
  obtain ⟨n0, hn0⟩ : ∃ n, l.length = n := ⟨_, rfl⟩
  obtain ⟨n1, hn1⟩ : ∃ n, m.length = n := ⟨_, rfl⟩
  obtain ⟨n0', hn0'⟩ : ∃ n, l'.length = n := ⟨_, rfl⟩
  obtain ⟨n1', hn1'⟩ : ∃ n, m'.length = n := ⟨_, rfl⟩
  rw [hn0, hn1] at HS
  rw [hn0', hn1'] at HS'
  rw [hn0, hn1, hn0', hn1']
  clear hn hk hm hn' hk' hm' hn0 hn1 hn0' hn1'
  obtain ⟨A, hA⟩ : ∃ A, fewBlock k l m = A := ⟨_, rfl⟩
  obtain ⟨B, hB⟩ : ∃ B, fewBlock k' l' m' = B := ⟨_, rfl⟩
  have HA := Lib.hid hA
  have HB := Lib.hid hB
  clear hA hB
  have X0 := Lib.hid ((((Below.refl w.heap.size w).alloc (Nat.le_refl _) (.cells #[.int .i64 s1, .int .i64 s2] 23)).alloc (by simp) (.cells #[.int .i64 v, .int .i64 p, .int .i64 j, .string k, .slice a0 n0 c0, .slice a1 n1 c1] 33)).alloc (by simp; omega) (.cells #[.int .i64 v', .int .i64 p', .int .i64 j', .string k', .slice a0' n0' c0', .slice a1' n1' c1'] 33))
  obtain ⟨w0, hw0⟩ : ∃ w0, ((w.alloc (.cells #[.int .i64 s1, .int .i64 s2] 23)).alloc (.cells #[.int .i64 v, .int .i64 p, .int .i64 j, .string k, .slice a0 n0 c0, .slice a1 n1 c1] 33)).alloc (.cells #[.int .i64 v', .int .i64 p', .int .i64 j', .string k', .slice a0' n0' c0', .slice a1' n1' c1'] 33) = w0 := ⟨_, rfl⟩
  have P0 := Lib.hid (show Blk w0 w.heap.size 2 (rowL [.int .i64 s1, .int .i64 s2]) from hw0 ▸ ((Blk.new' rfl (row2_ _ _)).alloc _).alloc _)
  have Q0 := Lib.hid (show Blk w0 (w.heap.size + 1) 6 (rowL [.int .i64 v, .int .i64 p, .int .i64 j, .string k, .slice a0 n0 c0, .slice a1 n1 c1]) from hw0 ▸ (Blk.new' (by simp) (row6_ _ _ _ _ _ _)).alloc _)
  have R0 := Lib.hid (show Blk w0 (w.heap.size + 1 + 1) 6 (rowL [.int .i64 v', .int .i64 p', .int .i64 j', .string k', .slice a0' n0' c0', .slice a1' n1' c1']) from hw0 ▸ Blk.new' (by simp) (row6_ _ _ _ _ _ _))
  rw [hw0] at X0
  have HW0 := Lib.hid hw0
  have HC := Lib.hid (fun (wx : World) (hb : Below w0.heap.size w0 wx) => show (wx.cell? ⟨w.heap.size, 0, none⟩ = some (.int .i64 s1) ∧ wx.cell? ⟨w.heap.size, 1, none⟩ = some (.int .i64 s2)) ∧ (wx.cell? ⟨w.heap.size + 1, 0, none⟩ = some (.int .i64 v) ∧ wx.cell? ⟨w.heap.size + 1, 1, none⟩ = some (.int .i64 p) ∧ wx.cell? ⟨w.heap.size + 1, 2, none⟩ = some (.int .i64 j) ∧ wx.cell? ⟨w.heap.size + 1, 3, none⟩ = some (.string k) ∧ wx.cell? ⟨w.heap.size + 1, 4, none⟩ = some (.slice a0 n0 c0) ∧ wx.cell? ⟨w.heap.size + 1, 5, none⟩ = some (.slice a1 n1 c1)) ∧
      (wx.cell? ⟨w.heap.size + 1 + 1, 0, none⟩ = some (.int .i64 v') ∧ wx.cell? ⟨w.heap.size + 1 + 1, 1, none⟩ = some (.int .i64 p') ∧ wx.cell? ⟨w.heap.size + 1 + 1, 2, none⟩ = some (.int .i64 j') ∧ wx.cell? ⟨w.heap.size + 1 + 1, 3, none⟩ = some (.string k') ∧ wx.cell? ⟨w.heap.size + 1 + 1, 4, none⟩ = some (.slice a0' n0' c0') ∧ wx.cell? ⟨w.heap.size + 1 + 1, 5, none⟩ = some (.slice a1' n1' c1')) from
    ⟨cells2 (P0.out.below hb P0.out.lt), cells6 (Q0.out.below hb Q0.out.lt), cells6 (R0.out.below hb R0.out.lt)⟩)
  clear hw0
  go_enter Try.func4, Try.ntmps4
  go_wp2_with fail
  rw [HW0.out]
  refine (rawake_any _).mono ?_
  rintro e w1 ⟨rfl, hb1⟩
  have X1 := Lib.hid hb1
  obtain ⟨⟨d0, d1⟩, ⟨d2, d3, d4, d5, d6, d7⟩, ⟨d8, d9, d10, d11, d12, d13⟩⟩ := HC.out w1 hb1
  clear hb1
  go_wp2_with fail
  refine (rfew_is v p j k _ _ l m A HA.out _ (HS.out.1.later (X0.out.trans (X1.out.mono X0.out.size))) (HS.out.2.1.later (X0.out.trans (X1.out.mono X0.out.size))) HS.out.2.2.1 HS.out.2.2.2.1 HL.out).mono ?_
  rintro e w2 ⟨rfl, hb2⟩
  have X2 := Lib.hid (X1.out.trans (hb2.mono X1.out.size))
  clear hb2 d0 d1 d2 d3 d4 d5 d6 d7 d8 d9 d10 d11 d12 d13
  cases A with
  | false =>
    go_wp2_with fail
    refine (rawake_any _).mono ?_
    rintro e w3 ⟨rfl, hb3⟩
    have X3 := Lib.hid (X2.out.trans (hb3.mono X2.out.size))
    clear hb3
    go_wp2_with fail
    go_ret
    exact ⟨rfl, X0.out.trans (X3.out.mono X0.out.size)⟩
  | true =>
    obtain ⟨⟨d0, d1⟩, ⟨d2, d3, d4, d5, d6, d7⟩, ⟨d8, d9, d10, d11, d12, d13⟩⟩ := HC.out w2 X2.out
    go_wp2_with fail
    refine (rfew_is v' p' j' k' _ _ l' m' B HB.out _ (HS'.out.1.later (X0.out.trans (X2.out.mono X0.out.size))) (HS'.out.2.1.later (X0.out.trans (X2.out.mono X0.out.size))) HS'.out.2.2.1 HS'.out.2.2.2.1 HL'.out).mono ?_
    rintro e w3 ⟨rfl, hb3⟩
    have X3 := Lib.hid (X2.out.trans (hb3.mono X2.out.size))
    clear hb3 d0 d1 d2 d3 d4 d5 d6 d7 d8 d9 d10 d11 d12 d13
    cases B with
    | false =>
      go_wp2_with fail
      refine (rawake_any _).mono ?_
      rintro e w4 ⟨rfl, hb4⟩
      have X4 := Lib.hid (X3.out.trans (hb4.mono X3.out.size))
      clear hb4
      go_wp2_with fail
      go_ret
      exact ⟨rfl, X0.out.trans (X4.out.mono X0.out.size)⟩
    | true =>
      obtain ⟨M, hM⟩ : ∃ M, mayB (s1, s2) v j = M := ⟨_, rfl⟩
      obtain ⟨⟨t1, t2⟩, hT⟩ : ∃ T, voteS (s1, s2) v j = T := ⟨_, rfl⟩
      obtain ⟨M', hM'⟩ : ∃ M, mayB (t1, t2) v' j' = M := ⟨_, rfl⟩
      obtain ⟨⟨y1, y2⟩, hY⟩ : ∃ T, voteS (t1, t2) v' j' = T := ⟨_, rfl⟩
      have HM := Lib.hid hM
      have HT := Lib.hid hT
      have HM' := Lib.hid hM'
      have HY := Lib.hid hY
      have HF := Lib.hid (show (M = true ∧ ¬ t1 = s1 ∧ t1 = v ∧ t2 = s2) ∨ (M = false ∧ s1 = t1 ∧ s2 = t2) from by
        cases M with
        | true =>
          rw [vote_yes hM] at hT
          injection hT with h1 h2
          have := (may_yes hM).1
          exact Or.inl ⟨rfl, by simp only at this; omega, h1.symm, h2.symm⟩
        | false =>
          rw [vote_no hM] at hT
          injection hT with h1 h2
          exact Or.inr ⟨rfl, h1, h2⟩)
      have HG := Lib.hid (show t1 ≤ y1 ∧ y2 = t2 ∧ (M' = true → t1 < v') from by
        have := vote_up (t1, t2) v' j'
        rw [hY] at this
        exact ⟨this.1, this.2, fun h => (may_yes (hM'.trans h)).1⟩)
      clear hM hT hM' hY
      obtain ⟨⟨d0, d1⟩, ⟨d2, d3, d4, d5, d6, d7⟩, ⟨d8, d9, d10, d11, d12, d13⟩⟩ := HC.out w3 X3.out
      go_upto_region 3 with fail
      go_cut [7] from 25 to 37 (fun s wx => s = .bool M ∧ w3 = wx)
      case first =>
        have h := HM.out
        unfold mayB at h
        by_cases h1 : s1 < v
        · have u1 : decide (s1 < v) = true := decide_eq_true h1
          by_cases h2 : s2 ≤ j
          · have u2 : decide (s2 ≤ j) = true := decide_eq_true h2
            obtain rfl : true = M := by rw [← h]; simp [h1, h2]
            clear h h1 h2
            go_wp2_with fail
            go_meet
            exact ⟨rfl, rfl⟩
          · have u2 : decide (s2 ≤ j) = false := decide_eq_false h2
            obtain rfl : false = M := by rw [← h]; simp [h2]
            clear h h1 h2
            go_wp2_with fail
            go_meet
            exact ⟨rfl, rfl⟩
        · have u1 : decide (s1 < v) = false := decide_eq_false h1
          obtain rfl : false = M := by rw [← h]; simp [h1]
          clear h h1
          go_wp2_with fail
          go_meet
          exact ⟨rfl, rfl⟩
      case rest =>
        obtain ⟨rfl, rfl⟩ := hcut
        go_wp2_with fail
        refine (vote_is s1 s2 v p j k a0 n0 c0 a1 n1 c1 t1 t2 HT.out M HM.out _).mono ?_
        rintro e w4 ⟨rfl, hb4⟩
        have X4 := Lib.hid ((X3.out.trans (hb4.mono X3.out.size)).alloc (Nat.le_trans X3.out.size hb4.size) (.cells #[.int .i64 t1, .int .i64 t2] 23))
        have B4 := Lib.hid (show Blk (w4.alloc (.cells #[.int .i64 t1, .int .i64 t2] 23)) w4.heap.size 2 (rowL [.int .i64 t1, .int .i64 t2]) from Blk.new' rfl (row2_ _ _))
        clear hb4 d0 d1 d2 d3 d4 d5 d6 d7 d8 d9 d10 d11 d12 d13
        obtain ⟨⟨d0, d1⟩, ⟨d2, d3, d4, d5, d6, d7⟩, ⟨d8, d9, d10, d11, d12, d13⟩⟩ := HC.out _ X4.out
        obtain ⟨e0, e1⟩ := cells2 B4.out
        go_wp2_with fail
        refine (may_is s1 s2 v p j k a0 n0 c0 a1 n1 c1 M HM.out _).mono ?_
        rintro e w5 ⟨rfl, hb5⟩
        have X5 := Lib.hid (X4.out.trans (hb5.mono X4.out.size))
        have B5 := Lib.hid (B4.out.below hb5 B4.out.lt)
        clear hb5 d0 d1 d2 d3 d4 d5 d6 d7 d8 d9 d10 d11 d12 d13 e0 e1
        obtain ⟨⟨d0, d1⟩, ⟨d2, d3, d4, d5, d6, d7⟩, ⟨d8, d9, d10, d11, d12, d13⟩⟩ := HC.out _ X5.out
        obtain ⟨e0, e1⟩ := cells2 B5.out
        have hF := HF.out
        cases M with
        | true =>
          obtain ⟨_, hne, rfl, rfl⟩ := hF.resolve_right (fun h => by cases h.1)
          go_wp2_with fail
          refine (vote_is t1 t2 v' p' j' k' a0' n0' c0' a1' n1' c1' y1 y2 HY.out M' HM'.out _).mono ?_
          rintro e w6 ⟨rfl, hb6⟩
          obtain ⟨hu1, rfl, hu3⟩ := HG.out
          have X6 := Lib.hid ((X5.out.trans (hb6.mono X5.out.size)).alloc (Nat.le_trans X5.out.size hb6.size) (.cells #[.int .i64 y1, .int .i64 y2] 23))
          have B6 := Lib.hid ((B5.out.below hb6 B5.out.lt).alloc (.cells #[.int .i64 y1, .int .i64 y2] 23))
          have C6 := Lib.hid (show Blk (w6.alloc (.cells #[.int .i64 y1, .int .i64 y2] 23)) w6.heap.size 2 (rowL [.int .i64 y1, .int .i64 y2]) from Blk.new' rfl (row2_ _ _))
          have u1 : decide (t1 ≤ y1) = true := decide_eq_true hu1
          clear hb6 d0 d1 d2 d3 d4 d5 d6 d7 d8 d9 d10 d11 d12 d13 e0 e1 hu1
          obtain ⟨⟨d0, d1⟩, ⟨d2, d3, d4, d5, d6, d7⟩, ⟨d8, d9, d10, d11, d12, d13⟩⟩ := HC.out _ X6.out
          obtain ⟨e0, e1⟩ := cells2 B6.out
          obtain ⟨e2, e3⟩ := cells2 C6.out
          cases M' with
          | true =>
            have u2 : decide (t1 < v') = true := decide_eq_true (hu3 rfl)
            clear hu3
            go_wp2_with fail
            go_ret
            exact ⟨rfl, X0.out.trans (X6.out.mono X0.out.size)⟩
          | false =>
            clear hu3
            go_wp2_with fail
            go_ret
            exact ⟨rfl, X0.out.trans (X6.out.mono X0.out.size)⟩
        | false =>
          obtain ⟨_, rfl, rfl⟩ := hF.resolve_left (fun h => by cases h.1)
          go_wp2_with fail
          refine (vote_is s1 s2 v' p' j' k' a0' n0' c0' a1' n1' c1' y1 y2 HY.out M' HM'.out _).mono ?_
          rintro e w6 ⟨rfl, hb6⟩
          obtain ⟨hu1, rfl, hu3⟩ := HG.out
          have X6 := Lib.hid ((X5.out.trans (hb6.mono X5.out.size)).alloc (Nat.le_trans X5.out.size hb6.size) (.cells #[.int .i64 y1, .int .i64 y2] 23))
          have B6 := Lib.hid ((B5.out.below hb6 B5.out.lt).alloc (.cells #[.int .i64 y1, .int .i64 y2] 23))
          have C6 := Lib.hid (show Blk (w6.alloc (.cells #[.int .i64 y1, .int .i64 y2] 23)) w6.heap.size 2 (rowL [.int .i64 y1, .int .i64 y2]) from Blk.new' rfl (row2_ _ _))
          have u1 : decide (s1 ≤ y1) = true := decide_eq_true hu1
          clear hb6 d0 d1 d2 d3 d4 d5 d6 d7 d8 d9 d10 d11 d12 d13 e0 e1 hu1
          obtain ⟨⟨d0, d1⟩, ⟨d2, d3, d4, d5, d6, d7⟩, ⟨d8, d9, d10, d11, d12, d13⟩⟩ := HC.out _ X6.out
          obtain ⟨e0, e1⟩ := cells2 B6.out
          obtain ⟨e2, e3⟩ := cells2 C6.out
          cases M' with
          | true =>
            clear hu3
            go_wp2_with fail
            go_ret
            exact ⟨rfl, X0.out.trans (X6.out.mono X0.out.size)⟩
          | false =>
            clear hu3
            go_wp2_with fail
            go_ret
            exact ⟨rfl, X0.out.trans (X6.out.mono X0.out.size)⟩
end Go.Proofs.Ytlpnggdghmccjaa
end
section
open Go Go.RowKit
namespace FF
open WW BB
theorem ready_hit {F : Fo} (i : Nat) (hi : i < F.orph.length) (hn : ∀ j, j < i → hasF F (parI (F.orph.getD j i0).2) = false) (he : hasF F (parI (F.orph.getD i i0).2) = true) : readyF F = some i := by
  unfold readyF
  rw [List.findIdx?_eq_some_iff_getElem]
  refine ⟨hi, by simpa [List.getD, List.getElem?_eq_getElem hi] using he, fun j hj => ?_⟩
  have := hn j hj
  simpa [List.getD, List.getElem?_eq_getElem (show j < F.orph.length by omega)] using this
theorem ready_none {F : Fo} (hn : ∀ j, j < F.orph.length → hasF F (parI (F.orph.getD j i0).2) = false) : readyF F = none := by
  unfold readyF
  rw [List.findIdx?_eq_none_iff]
  intro x hx
  obtain ⟨j, hj, rfl⟩ := List.getElem_of_mem hx
  have := hn j hj
  simpa [List.getD, List.getElem?_eq_getElem hj] using this
theorem stand_root (F : Fo) (x : It) : (standF F x).1.root = F.root := by unfold standF; split; rfl; split <;> rfl
theorem stand_height (F : Fo) (x : It) : (standF F x).1.height = F.height := by unfold standF; split; rfl; split <;> rfl
theorem stand_orph (F : Fo) (x : It) : (standF F x).1.orph = F.orph := by unfold standF; split; rfl; split <;> rfl
theorem stand_len (F : Fo) (x : It) (h : F.nodes.length ≤ 1000) : (standF F x).1.nodes.length ≤ 1000 := by
  unfold standF
  split
  · exact h
  · split
    · exact h
    · simp only [List.length_append, List.length_singleton]; omega
theorem adopt_root : ∀ (m : Nat) (F : Fo), (adoptF m F).root = F.root ∧ (adoptF m F).height = F.height
  | 0, F => ⟨rfl, rfl⟩
  | m + 1, F => by
    unfold adoptF
    split
    · exact ⟨rfl, rfl⟩
    · rename_i i _
      obtain ⟨h1, h2⟩ := adopt_root m (standF { F with orph := F.orph.eraseIdx i } (F.orph.getD i i0)).1
      rw [h1, h2, stand_root, stand_height]; exact ⟨rfl, rfl⟩
/-- the call's two boxes: the forest, the result -/
structure AdS (w : World) (g : Nat) (f1 f3 : Nat → Value) (w' : World) : Prop where
  below : Below w.heap.size w w'
  lo : w.heap.size = g
  a : Blk w' g 4 f1
  c : Blk w' (g + 1) 4 f3
theorem AdS.on {w : World} {g : Nat} {f1 f3 : Nat → Value} {w1 w2 : World} (h : AdS w g f1 f3 w1) (hb : Below w1.heap.size w1 w2) : AdS w g f1 f3 w2 :=
  ⟨h.below.trans (hb.mono h.below.size), h.lo, h.a.below hb h.a.lt, h.c.below hb h.c.lt⟩
theorem AdS.mk2 (w : World) (cs es : List Value) (t s : TypeId) (h1 : cs.toArray = row 4 (rowL cs)) (h3 : es.toArray = row 4 (rowL es)) : AdS w w.heap.size (rowL cs) (rowL es) ((w.alloc (.cells cs.toArray t)).alloc (.cells es.toArray s)) := by
  have b1 := (Below.refl w.heap.size w).alloc (Nat.le_refl _) (.cells cs.toArray t)
  have b2 := b1.alloc b1.size (.cells es.toArray s)
  exact ⟨b2, rfl, (Blk.new' rfl h1).alloc _, Blk.new' (by simp) h3⟩
theorem erase_same (L : List Iv) (i : Nat) (hi : i < L.length) : (L.take (i + 1)).eraseIdx i = (L.take i).eraseIdx i := by
  rw [List.take_add_one, List.getElem?_eq_getElem hi, List.eraseIdx_append_of_length_le (by simp; omega)]
  have : (L.take i).length = i := by simp; omega
  rw [this, Nat.sub_self, List.eraseIdx_of_length_le (l := L.take i) (by omega)]
  simp
theorem erase_more (L : List Iv) (i k : Nat) (hk : k < L.length) (hne : k ≠ i) : (L.take (k + 1)).eraseIdx i = (L.take k).eraseIdx i ++ [L.getD k v0] := by
  have e : L.take (k + 1) = L.take k ++ [L.getD k v0] := by
    rw [List.take_add_one, List.getElem?_eq_getElem hk]; simp [List.getD, List.getElem?_eq_getElem hk]
  have hlen : (L.take k).length = k := by simp; omega
  rw [e]
  by_cases h : i < k
  · rw [List.eraseIdx_append_of_lt_length (by omega)]
  · rw [List.eraseIdx_append_of_length_le (by omega), List.eraseIdx_of_length_le (l := L.take k) (by omega), hlen]
    rw [List.eraseIdx_of_length_le (l := [L.getD k v0]) (by simp; omega)]
theorem erase_mem {L : List Iv} {i k : Nat} {x : Iv} (h : x ∈ (L.take k).eraseIdx i) : x ∈ L := List.mem_of_mem_take (List.mem_of_mem_eraseIdx h)
theorem map_erase : ∀ (L : List Iv) (i : Nat), (L.eraseIdx i).map Prod.fst = (L.map Prod.fst).eraseIdx i
  | [], _ => rfl
  | x :: r, 0 => rfl
  | x :: r, i + 1 => by
    show x.1 :: (r.eraseIdx i).map Prod.fst = x.1 :: (r.map Prod.fst).eraseIdx i
    rw [map_erase r i]
/-- behind the orphan that was found: its box, and the others -/
structure AdI (w : World) (g : Nat) (f1 f3 fx : Nat → Value) (y : Nat) (e : TypeId) (L : List Iv) (v : Value) (w' : World) : Prop where
  s : AdS w g f1 f3 w'
  x : Blk w' y 7 fx
  lo : g + 1 < y
  row : w'.ownsRow (y + 1) e 7 v L.length (cellsV L)
  shape : ∃ a c, v = .slice a L.length c
theorem cells7_new (w : World) (x : Iv) (t : TypeId) : ∀ j u, (encV x)[j]? = some u → (w.alloc (.cells (encV x).toArray t)).cell? ((⟨w.heap.size, 0, none⟩ : Addr).add j) = some u := by
  intro j u hj
  rw [Addr.add_lit, Nat.zero_add]
  exact cell_new w _ t j _ (by simpa using hj)
end FF
namespace Go.Proofs.Ytlpnggdghmccjaa
open FF JJ CC WW BB
end Go.Proofs.Ytlpnggdghmccjaa
end
