/-
  The walk of the reference's adopt: orphans whose parents are there.
-/
import Derived.Test.YtbakceglaadfpaaDoorKFItem
import Derived.Test.YtbakceglaadfpaaDoorKLNum
import Derived.Test.YtbakceglaadfpaaDoorKPlanE
import Derived.Test.YtbakceglaadfpaaDoorKEText
import Derived.Test.YtbakceglaadfpaaDoorKJUnlike
import Derived.Test.YtbakceglaadfpaaDoorKJBox
import Derived.Laws.AppendOwn
import Derived.Laws.OwnMore
import Derived.Test.YtbakceglaadfpaaDoorKWReqLaw
import Derived.Test.YtbakceglaadfpaaDoorKWFew
import Derived.Test.YtbakceglaadfpaaDoorKJRefT
import Derived.Test.YtbakceglaadfpaaDoorKLeMath
import Derived.Test.YtbakceglaadfpaaDoorKLaw1
import Derived.Test.YtbakceglaadfpaaDoorKWFewS
section
open Go Go.RowKit
namespace FF
open WW BB
/-- the blocks of A stay as they are -/
structure Keeps (A : Nat → Prop) (w w' : World) : Prop where
  b0 : Below 0 w w'
  block : ∀ b, A b → b < w.heap.size → w'.heap[b]? = w.heap[b]?
theorem Keeps.refl (A : Nat → Prop) (w : World) : Keeps A w w := ⟨Below.refl 0 w, fun _ _ _ => rfl⟩
theorem Keeps.trans {A : Nat → Prop} {w1 w2 w3 : World} (h : Keeps A w1 w2) (k : Keeps A w2 w3) : Keeps A w1 w3 := ⟨h.b0.trans k.b0, fun b hb hl => (k.block b hb (Nat.lt_of_lt_of_le hl h.b0.size)).trans (h.block b hb hl)⟩
theorem Keeps.of {A : Nat → Prop} {w w' : World} (h : Below w.heap.size w w') : Keeps A w w' := ⟨h.mono (Nat.zero_le _), fun b _ hl => h.block b hl⟩
theorem Keeps.upd {A : Nat → Prop} {c : Nat} {w w' : World} (h : Upd c w w') (hA : ∀ b, A b → b ≠ c) : Keeps A w w' := ⟨h.below (Nat.zero_le _), fun b hb _ => h.block b (hA b hb)⟩
theorem Keeps.sub {A A' : Nat → Prop} {w w' : World} (h : Keeps A w w') (hA : ∀ b, A' b → b < w.heap.size → A b) : Keeps A' w w' := ⟨h.b0, fun b hb hl => h.block b (hA b hb hl) hl⟩
theorem Keeps.below {w w' : World} (h : Keeps (fun b => b < w.heap.size) w w') : Below w.heap.size w w' := ⟨h.b0.os, h.b0.tape, h.b0.output, h.b0.size, fun k hk => h.block k hk hk⟩
/-- what is said of a world rests upon the blocks of A -/
def Dep (A : Nat → Prop) (w : World) (P : World → Prop) : Prop := ∀ w', Keeps A w w' → P w'
theorem Dep.now {A : Nat → Prop} {w : World} {P : World → Prop} (h : Dep A w P) : P w := h w (Keeps.refl A w)
theorem Dep.on {A : Nat → Prop} {w w' : World} {P : World → Prop} (h : Dep A w P) (hk : Keeps A w w') : Dep A w' P := fun w2 h2 => h w2 (hk.trans h2)
theorem Dep.more {A A' : Nat → Prop} {w : World} {P : World → Prop} (h : Dep A w P) (hA : ∀ b, A b → b < w.heap.size → A' b) : Dep A' w P := fun w2 h2 => h w2 (h2.sub hA)
/-- the forest F, resting upon the blocks of A -/
def FoD (A : Nat → Prop) (w : World) (F : Fo) (nv ov : Value) : Prop := ∃ N O : List Iv, N.map Prod.fst = F.nodes ∧ O.map Prod.fst = F.orph ∧ Dep A w (fun w' => IvAt w' nv N ∧ IvAt w' ov O)
theorem FoD.now {A : Nat → Prop} {w : World} {F : Fo} {nv ov : Value} (h : FoD A w F nv ov) : FoAt w F nv ov := by
  obtain ⟨N, O, h1, h2, h3⟩ := h
  exact ⟨N, O, h1, h2, h3.now.1, h3.now.2⟩
theorem FoD.on {A : Nat → Prop} {w w' : World} {F : Fo} {nv ov : Value} (h : FoD A w F nv ov) (hk : Keeps A w w') : FoD A w' F nv ov := by
  obtain ⟨N, O, h1, h2, h3⟩ := h
  exact ⟨N, O, h1, h2, h3.on hk⟩
theorem FoD.more {A A' : Nat → Prop} {w : World} {F : Fo} {nv ov : Value} (h : FoD A w F nv ov) (hA : ∀ b, A b → b < w.heap.size → A' b) : FoD A' w F nv ov := by
  obtain ⟨N, O, h1, h2, h3⟩ := h
  exact ⟨N, O, h1, h2, h3.more hA⟩
theorem FoD.cut {A : Nat → Prop} {w : World} {F : Fo} {nv ov : Value} (h : FoD A w F nv ov) : FoD (fun b => A b ∧ b < w.heap.size) w F nv ov := by
  obtain ⟨N, O, h1, h2, h3⟩ := h
  exact ⟨N, O, h1, h2, fun w2 h4 => h3 w2 (h4.sub fun c hc hl => ⟨hc, hl⟩)⟩
theorem fod_of {w : World} {F : Fo} {nv ov : Value} (h : FoAt w F nv ov) : FoD (fun b => b < w.heap.size) w F nv ov := by
  obtain ⟨N, O, h1, h2, h3, h4⟩ := h
  exact ⟨N, O, h1, h2, fun _ hk => ⟨h3.later hk.below, h4.later hk.below⟩⟩
theorem dep_inn {w : World} {x : Iv} (h : InnV w x) : Dep (fun b => b < w.heap.size) w (fun w' => InnV w' x) := fun _ hk => h.later hk.below
/-- a list as a row -/
def rowL (l : List Value) (i : Nat) : Value := l.getD i undef
/-- the call's three boxes: the forest, the item, the result -/
structure PuS (w : World) (g : Nat) (f1 f2 f3 : Nat → Value) (w' : World) : Prop where
  below : Below w.heap.size w w'
  lo : w.heap.size = g
  a : Blk w' g 4 f1
  b : Blk w' (g + 1) 7 f2
  c : Blk w' (g + 1 + 1) 4 f3
theorem PuS.on {w : World} {g : Nat} {f1 f2 f3 : Nat → Value} {w1 w2 : World} (h : PuS w g f1 f2 f3 w1) (hb : Below w1.heap.size w1 w2) : PuS w g f1 f2 f3 w2 :=
  ⟨h.below.trans (hb.mono h.below.size), h.lo, h.a.below hb h.a.lt, h.b.below hb h.b.lt, h.c.below hb h.c.lt⟩
theorem PuS.mk3 (w : World) (cs ds es : List Value) (t u s : TypeId) (h1 : cs.toArray = row 4 (rowL cs)) (h2 : ds.toArray = row 7 (rowL ds)) (h3 : es.toArray = row 4 (rowL es)) : PuS w w.heap.size (rowL cs) (rowL ds) (rowL es) (((w.alloc (.cells cs.toArray t)).alloc (.cells ds.toArray u)).alloc (.cells es.toArray s)) := by
  have b1 := (Below.refl w.heap.size w).alloc (Nat.le_refl _) (.cells cs.toArray t)
  have b2 := b1.alloc b1.size (.cells ds.toArray u)
  have b3 := b2.alloc b2.size (.cells es.toArray s)
  refine ⟨b3, rfl, ((Blk.new' rfl h1).alloc _).alloc _, (Blk.new' (by simp) h2).alloc _, Blk.new' (by simp) h3⟩
theorem run_append_none_any {P : Program} {w : World} (base : Nat) (t ty e : TypeId) (i : TypeInfo) (size : Nat) (ht : P.underlying t = some (.slice e)) (hi : P.info? e = some i)
    (v : Value) (n : Nat) (xs : List Value) (hown : w.ownsRow base e size v n xs) (c : Nat) :
    (Builtin.append_ #[t, t] ty #[v, .slice none 0 c]).run P w = .ok v w := by
  rcases hown.2 with ⟨rfl, rfl⟩ | ⟨g, cap, cur, rfl, _, _, hnc, _⟩
  · simp [Builtin.append_, run_underlying ht, Go.sizeOf, typeInfo, hi, Builtin.lenOf, Builtin.firstCells]
  · simp [Builtin.append_, run_underlying ht, Go.sizeOf, typeInfo, hi, Builtin.lenOf, Builtin.firstCells, hnc, storeCells]
/-- what was in a slice is appended to an empty row of the call's own -/
theorem run_append_arg0 {P : Program} {w : World} (base : Nat) (t ty e : TypeId) (i : TypeInfo) (z : Value) (size bytes : Nat) (ht : P.underlying t = some (.slice e)) (hi : P.info? e = some i) (hz : i.zero = some z)
    (hsize : i.size = size) (hby : i.bytes = bytes) (hzs : z.cells.size = size) (hsz : 0 < size) (b : Nat) (hown : w.ownsRow base e size (.slice (some ⟨b, 0, none⟩) 0 0) 0 []) (a0 : Option Addr) (j c : Nat) (news : List Value) (hl : news.length = j * size)
    (hn : a0 = none → j = 0) (hnews : ∀ a, a0 = some a → ∀ k u, news[k]? = some u → w.cell? (a.add k) = some u) (h1 : ∀ y ∈ news, y.oneCell' = true)
    (h63 : j ≤ maxLen) (hbytes : j * bytes ≤ 140737488355328) (hbase : base ≤ w.heap.size) :
    ∃ v' w', (Builtin.append_ #[t, t] ty #[.slice (some ⟨b, 0, none⟩) 0 0, .slice a0 j c]).run P w = .ok v' w' ∧ w'.ownsRow base e size v' j news ∧ w.grownBy w' (some b) ∧ ∀ c, v'.ownBlock = some c → c = b ∨ w.heap.size ≤ c := by
  rcases a0 with _ | a
  · obtain rfl := hn rfl
    have hn : news = [] := List.eq_nil_of_length_eq_zero (by simpa using hl)
    subst hn
    exact ⟨_, w, run_append_none_any (P := P) (w := w) base t ty e i size ht hi _ 0 [] hown c, hown, ⟨rfl, rfl, rfl, Nat.le_refl _, fun _ _ _ => rfl⟩, fun c' hc => by
      have hc : some b = some c' := hc
      injection hc with hc
      exact Or.inl hc.symm⟩
  · obtain ⟨v', w', hr, ho, hg, _⟩ := run_append_own (P := P) w base t ty e i z size bytes ht hi hz hsize hby hzs hsz _ 0 [] hown a j c news hl (hnews a rfl) h1 (by simpa using h63) (by simpa using hbytes) hbase
    refine ⟨v', w', hr, by simpa using ho, hg, fun c' hc => ?_⟩
    by_cases hj : j = 0
    · subst hj
      have hn : news = [] := List.eq_nil_of_length_eq_zero (by simpa using hl)
      subst hn
      obtain ⟨cur', hh⟩ : ∃ cur', w.heap[b]? = some (.cells cur' e (0, 0)) := by
        rcases hown.2 with ⟨h, _⟩ | ⟨g', cap', cur', h, _, hh, _⟩
        · cases h
        · injection h with h _ _; injection h with h; injection h with h; subst h; exact ⟨cur', hh⟩
      have h2 := run_append_room (P := P) w t ty e i ht hi b 0 0 cur' hh a 0 c [] (by simp) (by simp) (by simp) (by omega) (by simp)
      rw [hr] at h2
      injection h2 with h2 _
      subst h2
      have hc : some b = some c' := hc
      injection hc with hc
      exact Or.inl hc.symm
    · have h2 := run_append_grow (P := P) w t ty e i z ht hi hz ⟨b, 0, none⟩ 0 0 [] (by simp) (by simp) a j c news (by rw [hsize]; exact hl) (hnews a rfl) (by omega) (by unfold maxLen at h63; omega) (growslice_fits (by omega) (by rw [hby]; simpa using hbytes))
      rw [hr] at h2
      injection h2 with h2 _
      subst h2
      have hc : some w.heap.size = some c' := hc
      injection hc with hc
      exact Or.inr (by omega)
/-- four cells are written -/
theorem set4 {w : World} {a : Nat} {f : Nat → Value} (h : Blk w a 4 f) (u0 u1 u2 u3 : Value) :
    ((((((w.setCell ⟨a, 0, none⟩ u0).setCell ⟨a, 1, none⟩ u1).setCell ⟨a, 2, none⟩ u2).setCell ⟨a, 3, none⟩ u3).cell? ⟨a, 0, none⟩ = some u0 ∧ ((((w.setCell ⟨a, 0, none⟩ u0).setCell ⟨a, 1, none⟩ u1).setCell ⟨a, 2, none⟩ u2).setCell ⟨a, 3, none⟩ u3).cell? ⟨a, 1, none⟩ = some u1 ∧
      ((((w.setCell ⟨a, 0, none⟩ u0).setCell ⟨a, 1, none⟩ u1).setCell ⟨a, 2, none⟩ u2).setCell ⟨a, 3, none⟩ u3).cell? ⟨a, 2, none⟩ = some u2 ∧ ((((w.setCell ⟨a, 0, none⟩ u0).setCell ⟨a, 1, none⟩ u1).setCell ⟨a, 2, none⟩ u2).setCell ⟨a, 3, none⟩ u3).cell? ⟨a, 3, none⟩ = some u3)) ∧
    Upd a w ((((w.setCell ⟨a, 0, none⟩ u0).setCell ⟨a, 1, none⟩ u1).setCell ⟨a, 2, none⟩ u2).setCell ⟨a, 3, none⟩ u3) := by
  have k := ((((h.set 0 u0).set 1 u1).set 2 u2).set 3 u3)
  exact ⟨⟨k.get 0 (by omega), k.get 1 (by omega), k.get 2 (by omega), k.get 3 (by omega)⟩, ((((Upd.refl a w).trans (Upd.set _ _ _ _)).trans (Upd.set _ _ _ _)).trans (Upd.set _ _ _ _)).trans (Upd.set _ _ _ _)⟩
/-- the cells of a slice of items, one behind the other -/
theorem iv_flat {w w' : World} {a0 : Option Addr} {n c : Nat} {L : List Iv} (h : IvAt w (.slice a0 n c) L) (hb : Below w.heap.size w w') : ∀ a, a0 = some a → ∀ k u, (cellsV L)[k]? = some u → w'.cell? (a.add k) = some u := by
  intro a ha k u hu
  obtain ⟨a1, c1, he, h | ⟨b, off, h1, hl, hc⟩⟩ := h
  · subst h; simp [cellsV] at hu
  · injection he with e1 _ _
    rw [ha, h1] at e1
    injection e1 with e1
    subst e1
    have hk : k < L.length * 7 := by rw [← cellsV_len]; exact (List.getElem?_eq_some_iff.1 hu).1
    have hi : k / 7 < L.length := by omega
    have hj : k % 7 < (encV (L.getD (k / 7) v0)).length := by show k % 7 < 7; omega
    have h2 := cellsV_at L (k / 7) (k % 7) _ hi (List.getElem?_eq_getElem hj)
    rw [show k / 7 * 7 + k % 7 = k by omega, hu] at h2
    injection h2 with h2
    have h3 := (hc (k / 7) hi).1 (k % 7) _ (List.getElem?_eq_getElem hj)
    rw [← h2, show off + k / 7 * 7 + k % 7 = off + k by omega] at h3
    rw [Addr.add_lit]
    exact (hb.cell (p := ⟨b, off + k, none⟩) hl).trans h3
theorem iv_none {w : World} {a0 : Option Addr} {n c : Nat} {L : List Iv} (h : IvAt w (.slice a0 n c) L) (h0 : a0 = none) : n = 0 := by
  obtain ⟨a1, c1, he, h | ⟨b, off, h1, _⟩⟩ := h
  · subst h; injection he
  · injection he with e1 _ _
    rw [h0, h1] at e1
    cases e1
end FF
namespace Go.Proofs.YtbakceglaadfpaaDoor
open FF JJ CC WW BB
end Go.Proofs.YtbakceglaadfpaaDoor
end
section
open Go Go.RowKit
namespace ZZ
open FF JJ WW BB
def rqV (r : Rq) : Value := .agg #[.int .i64 r.1, .int .i64 r.2.1, .string r.2.2]
/-- the pool behind a call -/
def Next12 (At : (Nat → Prop) → World → Nat → Po → Prop) (O : Nat → Prop) (w : World) (g : Nat) (p : Po) (w' : World) : Prop :=
  ∃ O', At O' w' g p ∧ Keeps (fun b => ¬ O b) w w' ∧ ∀ b, O' b → O b ∨ w.heap.size ≤ b
end ZZ
namespace Go.Proofs.YtbakceglaadfpaaDoor
open ZZ FF JJ WW BB
end Go.Proofs.YtbakceglaadfpaaDoor
end
section
open Go Go.RowKit
namespace ZZ
open FF JJ WW BB
/-- a call's five cells -/
def OpZ (w : World) (b off : Nat) (o : OpP) : Prop :=
  w.cell? ⟨b, off, none⟩ = some (.int .u8 (o.k : Int)) ∧ w.cell? ⟨b, off + 1, none⟩ = some (.int .i64 o.r.1) ∧ w.cell? ⟨b, off + 2, none⟩ = some (.int .i64 o.r.2.1) ∧ w.cell? ⟨b, off + 3, none⟩ = some (.string o.r.2.2) ∧ w.cell? ⟨b, off + 4, none⟩ = some o.lv ∧ ReqsAt w o.lv o.l
theorem OpZ.later {w w' : World} {b off : Nat} {o : OpP} (h : OpZ w b off o) (hb : Below w.heap.size w w') (hl : b < w.heap.size) : OpZ w' b off o := by
  obtain ⟨h0, h1, h2, h3, h4, h5⟩ := h
  have k : ∀ i u, w.cell? ⟨b, i, none⟩ = some u → w'.cell? ⟨b, i, none⟩ = some u := fun i u h => (hb.cell (p := ⟨b, i, none⟩) hl).trans h
  exact ⟨k _ _ h0, k _ _ h1, k _ _ h2, k _ _ h3, k _ _ h4, h5.later hb⟩
/-- v is a slice of calls -/
def OpsZ (w : World) (v : Value) (l : List OpP) : Prop :=
  ∃ a0 cap, v = .slice a0 l.length cap ∧ (l = [] ∨ ∃ b off, a0 = some ⟨b, off, none⟩ ∧ b < w.heap.size ∧ ∀ i, i < l.length → OpZ w b (off + i * 5) (l.getD i opP0))
theorem OpsZ.later {w w' : World} {v : Value} {l : List OpP} (h : OpsZ w v l) (hb : Below w.heap.size w w') : OpsZ w' v l := by
  obtain ⟨a0, cap, e, h⟩ := h
  exact ⟨a0, cap, e, h.imp id fun ⟨b, off, e2, hl, hc⟩ => ⟨b, off, e2, Nat.lt_of_lt_of_le hl hb.size, fun i hi => (hc i hi).later hb hl⟩⟩
theorem opsZ_at {w : World} {a0 : Option Addr} {n cap : Nat} {l : List OpP} (h : OpsZ w (.slice a0 n cap) l) (i : Nat) (hi : i < l.length) : ∃ b off, a0 = some ⟨b, off, none⟩ ∧ b < w.heap.size ∧ n = l.length ∧ ∀ wx, Below w.heap.size w wx → OpZ wx b (off + i * 5) (l.getD i opP0) := by
  obtain ⟨a, c, e, h⟩ := h
  injection e with e1 e2 e3
  subst e1 e2 e3
  rcases h with rfl | ⟨b, off, e, hl, hc⟩
  · simp at hi
  · exact ⟨b, off, e, hl, rfl, fun wx hb => (hc i hi).later hb hl⟩
/-- it fits into memory -/
def MemZ (l : List OpP) : Prop := l.length ≤ 9223372036854775807 ∧ ∀ o ∈ l, o.l.length ≤ 9223372036854775807 ∧ o.r.2.2.size ≤ 9223372036854775807 ∧ o.k < 256
/-- what few tells of one call -/
def FewZ (o : OpP) : Prop := o.l.length ≤ 10 ∧ o.r.2.2.size ≤ 60
/-- the reference's pool: a box of two slices, and what they lie in -/
def RfAt (A : Nat → Prop) (w : World) (y : Nat) (p : Po) : Prop := ∃ wv dv, Blk w y 2 (rowL [wv, dv]) ∧ Dep A w (fun w' => ReqsAt w' wv p.1 ∧ ReqsAt w' dv p.2)
theorem RfAt.keep {A : Nat → Prop} {w w' : World} {y : Nat} {p : Po} (h : RfAt A w y p) (hk : Keeps (fun b => b = y ∨ A b) w w') : RfAt A w' y p := by
  obtain ⟨wv, dv, h1, h2⟩ := h
  exact ⟨wv, dv, h1.of_heap (hk.block y (.inl rfl) h1.lt), h2.on (hk.sub fun b hb _ => .inr hb)⟩
theorem RfAt.on {A : Nat → Prop} {w w' : World} {y : Nat} {p : Po} (h : RfAt A w y p) (hb : Below w.heap.size w w') : RfAt A w' y p := h.keep (Keeps.of hb)
/-- other blocks hold it -/
theorem RfAt.more {A A' : Nat → Prop} {w : World} {y : Nat} {p : Po} (h : RfAt A w y p) (hA : ∀ b, A b → b < w.heap.size → A' b) : RfAt A' w y p := by
  obtain ⟨wv, dv, h1, h2⟩ := h
  exact ⟨wv, dv, h1, h2.more hA⟩
theorem reqs_sl {w : World} {v : Value} {l : List Rq} (h : ReqsAt w v l) : ∃ a c, v = .slice a l.length c := by
  obtain ⟨a, c, e, _⟩ := h
  exact ⟨a, c, e⟩
end ZZ
end
section
open Go Go.RowKit
namespace RR
open FF BB
theorem row2_ (a b : Value) : (#[a, b] : Array Value) = row 2 (rowL [a, b]) := rfl
theorem row3_ (a b c : Value) : (#[a, b, c] : Array Value) = row 3 (rowL [a, b, c]) := rfl
theorem row4_ (a b c d : Value) : (#[a, b, c, d] : Array Value) = row 4 (rowL [a, b, c, d]) := rfl
theorem row6_ (a b c d e f : Value) : (#[a, b, c, d, e, f] : Array Value) = row 6 (rowL [a, b, c, d, e, f]) := rfl
theorem rset2 {w : World} {a : Nat} {f : Nat → Value} (h : Blk w a 2 f) (u0 u1 : Value) :
    Blk ((w.setCell ⟨a, 0, none⟩ u0).setCell ⟨a, 1, none⟩ u1) a 2 (rowL [u0, u1]) ∧ Upd a w ((w.setCell ⟨a, 0, none⟩ u0).setCell ⟨a, 1, none⟩ u1) := by
  refine ⟨((h.set 0 u0).set 1 u1).congr _ fun i hi => ?_, ((Upd.refl a w).trans (Upd.set _ _ _ _)).trans (Upd.set _ _ _ _)⟩
  match i, hi with
  | 0, _ => rfl
  | 1, _ => rfl
theorem rset3 {w : World} {a : Nat} {f : Nat → Value} (h : Blk w a 3 f) (u0 u1 u2 : Value) :
    Blk (((w.setCell ⟨a, 0, none⟩ u0).setCell ⟨a, 1, none⟩ u1).setCell ⟨a, 2, none⟩ u2) a 3 (rowL [u0, u1, u2]) ∧ Upd a w (((w.setCell ⟨a, 0, none⟩ u0).setCell ⟨a, 1, none⟩ u1).setCell ⟨a, 2, none⟩ u2) := by
  refine ⟨(((h.set 0 u0).set 1 u1).set 2 u2).congr _ fun i hi => ?_, (((Upd.refl a w).trans (Upd.set _ _ _ _)).trans (Upd.set _ _ _ _)).trans (Upd.set _ _ _ _)⟩
  match i, hi with
  | 0, _ => rfl
  | 1, _ => rfl
  | 2, _ => rfl
theorem rset6 {w : World} {a : Nat} {f : Nat → Value} (h : Blk w a 6 f) (u0 u1 u2 u3 u4 u5 : Value) :
    Blk ((((((w.setCell ⟨a, 0, none⟩ u0).setCell ⟨a, 1, none⟩ u1).setCell ⟨a, 2, none⟩ u2).setCell ⟨a, 3, none⟩ u3).setCell ⟨a, 4, none⟩ u4).setCell ⟨a, 5, none⟩ u5) a 6 (rowL [u0, u1, u2, u3, u4, u5]) ∧
    Upd a w ((((((w.setCell ⟨a, 0, none⟩ u0).setCell ⟨a, 1, none⟩ u1).setCell ⟨a, 2, none⟩ u2).setCell ⟨a, 3, none⟩ u3).setCell ⟨a, 4, none⟩ u4).setCell ⟨a, 5, none⟩ u5) := by
  refine ⟨((((((h.set 0 u0).set 1 u1).set 2 u2).set 3 u3).set 4 u4).set 5 u5).congr _ fun i hi => ?_, ((((((Upd.refl a w).trans (Upd.set _ _ _ _)).trans (Upd.set _ _ _ _)).trans (Upd.set _ _ _ _)).trans (Upd.set _ _ _ _)).trans (Upd.set _ _ _ _)).trans (Upd.set _ _ _ _)⟩
  match i, hi with
  | 0, _ => rfl
  | 1, _ => rfl
  | 2, _ => rfl
  | 3, _ => rfl
  | 4, _ => rfl
  | 5, _ => rfl
theorem cells2 {w : World} {b : Nat} {x y : Value} (h : Blk w b 2 (rowL [x, y])) : w.cell? ⟨b, 0, none⟩ = some x ∧ w.cell? ⟨b, 1, none⟩ = some y := ⟨h.get 0 (by omega), h.get 1 (by omega)⟩
theorem cells3 {w : World} {b : Nat} {x y z : Value} (h : Blk w b 3 (rowL [x, y, z])) : w.cell? ⟨b, 0, none⟩ = some x ∧ w.cell? ⟨b, 1, none⟩ = some y ∧ w.cell? ⟨b, 2, none⟩ = some z := ⟨h.get 0 (by omega), h.get 1 (by omega), h.get 2 (by omega)⟩
theorem cells4 {w : World} {b : Nat} {x y z u : Value} (h : Blk w b 4 (rowL [x, y, z, u])) : w.cell? ⟨b, 0, none⟩ = some x ∧ w.cell? ⟨b, 1, none⟩ = some y ∧ w.cell? ⟨b, 2, none⟩ = some z ∧ w.cell? ⟨b, 3, none⟩ = some u := ⟨h.get 0 (by omega), h.get 1 (by omega), h.get 2 (by omega), h.get 3 (by omega)⟩
theorem cells6 {w : World} {b : Nat} {x y z u v t : Value} (h : Blk w b 6 (rowL [x, y, z, u, v, t])) : w.cell? ⟨b, 0, none⟩ = some x ∧ w.cell? ⟨b, 1, none⟩ = some y ∧ w.cell? ⟨b, 2, none⟩ = some z ∧ w.cell? ⟨b, 3, none⟩ = some u ∧ w.cell? ⟨b, 4, none⟩ = some v ∧ w.cell? ⟨b, 5, none⟩ = some t :=
  ⟨h.get 0 (by omega), h.get 1 (by omega), h.get 2 (by omega), h.get 3 (by omega), h.get 4 (by omega), h.get 5 (by omega)⟩
end RR
namespace BB
/-- a store in a plan -/
theorem pl_store {P : Program} {ops : Array Oper} {S : World → Prop} {Q : Exit → Act → World → Prop} {i : Nat} {r : List (Bool × Nat)} {a : Act} {w w' : World} (o : Oper) (ho : ops[i]? = some o) (hg : o.guard = none) (h : (execOp a.eval o).run P w = .ok .skip w') (hS : S w') (hK : wpPlan P ops Q S r (a.put o.dst undef) w') : wpPlan P ops Q S ((false, i) :: r) a w := by
  show wpOp P ops Q i _ a w
  unfold wpOp; simp only [ho, Region.wanted, hg, if_true]
  left; unfold Oper.wp; rw [h]; exact ⟨hS, hK⟩
theorem pe_store {P : Program} {ops : Array Oper} {S : World → Prop} {Q : Exit → Act → World → Prop} {t i : Nat} {r : List (Bool × Nat)} {a : Act} {w w' : World} (o : Oper) (ho : ops[i]? = some o) (hg : o.guard = none) (h : (execOp a.eval o).run P w = .ok .skip w') (hS : S w') (hK : wpPlanE P ops Q S t r (a.put o.dst undef) w') : wpPlanE P ops Q S t ((false, i) :: r) a w := by
  show wpOp P ops Q i _ a w
  unfold wpOp; simp only [ho, Region.wanted, hg, if_true]
  left; unfold Oper.wp; rw [h]; exact ⟨fun _ => hS, hK⟩
end BB
end
section
open Go Go.RowKit
namespace ZZ
open FF JJ WW BB
theorem own_slZ {w : World} {base n k : Nat} {e : TypeId} {v : Value} {xs : List Value} (h : w.ownsRow base e k v n xs) : ∃ a c, v = .slice a n c := by
  rcases h.2 with ⟨h1, h2⟩ | ⟨q, cap, cur, h1, _⟩
  · exact ⟨none, 0, by rw [h1, h2]⟩
  · exact ⟨_, _, h1⟩
theorem has_hit {l : List Rq} {k : Int × Int} {i : Nat} (hi : i < l.length) (h : keyR (l.getD i r0) = k) : hasR l k = true := by
  unfold hasR
  rw [decide_eq_true_iff, ← h, List.getD_eq_getElem?_getD, List.getElem?_eq_getElem hi]
  exact List.mem_map.2 ⟨_, List.getElem_mem hi, rfl⟩
theorem has_none {l : List Rq} {k : Int × Int} (h : ∀ j, j < l.length → keyR (l.getD j r0) ≠ k) : hasR l k = false := by
  unfold hasR
  rw [decide_eq_false_iff_not]
  intro hk
  obtain ⟨r, hr, he⟩ := List.mem_map.1 hk
  obtain ⟨j, hj, rfl⟩ := List.getElem_of_mem hr
  exact h j hj (by rw [List.getD_eq_getElem?_getD, List.getElem?_eq_getElem hj]; exact he)
end ZZ
namespace Go.Proofs.YtbakceglaadfpaaDoor
open ZZ RR FF JJ CC WW BB
end Go.Proofs.YtbakceglaadfpaaDoor
end
section
open Go Go.RowKit
namespace LE
open JJ WW BB
theorem appE_take {l : List Rq} {i : Nat} (h : i < l.length) : appE [] (l.take (i + 1)) = (stepL (appE [] (l.take i)) (l.getD i r0)).1 := by
  rw [List.take_add_one, List.getElem?_eq_getElem h, appE_app, List.getD_eq_getElem?_getD, List.getElem?_eq_getElem h]; rfl
theorem dg_size13 (s : ByteArray) : (dg s).size = 32 := by simp [dg, outS, outL, ByteArray.size]
theorem digE_size (l : List Rq) : (digE l).size = 32 := by
  rcases List.eq_nil_or_concat l with rfl | ⟨m, r, rfl⟩
  · unfold digE; rw [List.foldl_nil]; exact dg_size13 _
  · rw [List.concat_eq_append, digE_snoc]; exact dg_size13 _
theorem appE_len (l : List Rq) (i : Nat) : (appE [] (l.take i)).length ≤ l.length := by
  obtain ⟨m, h1, h2⟩ := app_ext (l.take i) []
  rw [h1, List.nil_append]
  rw [List.length_take] at h2; omega
end LE
namespace Go.Proofs.YtbakceglaadfpaaDoor
open LE ZZ RR FF JJ CC WW BB
set_option maxRecDepth 100000 in
set_option maxHeartbeats 8000000 in
theorem rindex_any (l : List Rq) (v : Value) (c q : Int) (w : World) (hv : ReqsAt w v l) (hl : l.length ≤ 100000) :
    Calls Tryd.prog 13 #[v, .int .i64 c, .int .i64 q] w fun e w' => e = .returned (.int .i64 (ixR l (c, q))) ∧ Below w.heap.size w w' := by
  have HL := Lib.hid hl
  obtain ⟨a0, cap, rfl, hx⟩ := hv
  have HH := Lib.hid hx
  clear hl hx
  go_enter Tryd.func13, Tryd.ntmps13
  go_wp2_with fail
  go_loopw [7] (fun y wr => ∃ i : Nat, i ≤ l.length ∧ y = .int .i64 (i : Int) ∧ (∀ j, j < i → keyR (l.getD j r0) ≠ (c, q)) ∧ Below w.heap.size w wr) (fun y _ => l.length - (intOf y).toNat)
  case atStart => exact ⟨0, Nat.zero_le _, rfl, fun j hj => absurd hj (Nat.not_lt_zero _), Below.refl _ _⟩
  case round =>
    obtain ⟨i, hi, rfl, hall, hbr⟩ := hrel
    have HALL := Lib.hid hall
    have HBR := Lib.hid hbr
    have HI := Lib.hid hi
    have i0 : (0 : Int) ≤ (i : Int) := by omega
    have ib : (i : Int) ≤ 100000 := by have := HL.out; omega
    clear hall hbr hi
    by_cases hlt : i < l.length
    · have hlt' : (i : Int) < (l.length : Int) := by omega
      have HLT := Lib.hid hlt
      obtain ⟨b, off, rfl, hbw, hcell⟩ : ∃ b off, a0 = some ⟨b, off, none⟩ ∧ b < w.heap.size ∧ _ := by
        rcases HH.out with h | h
        · subst h; simp at hlt
        · exact h
      obtain ⟨q0, q1, q2⟩ := JJ.reqs_at HBR.out hbw hcell i hlt
      obtain ⟨z, hz⟩ : ∃ z, l.getD i r0 = z := ⟨_, rfl⟩
      rw [hz] at q0 q1 q2
      have HZ := Lib.hid hz
      obtain ⟨zc, zq, zs⟩ := z
      clear hlt hbw hcell hz
      by_cases h1 : zc = c
      · have t1 : (zc == c) = true := by simpa using h1
        have H1 := Lib.hid h1
        clear h1
        by_cases h2 : zq = q
        · have t2 : (zq == q) = true := by simpa using h2
          have HK := Lib.hid (show keyR (l.getD i r0) = (c, q) by rw [HZ.out, H1.out, h2]; rfl)
          clear h2
          go_wp2_with fail
          go_ret
          exact ⟨by rw [ix_hit i HLT.out HALL.out HK.out]; rfl, HBR.out⟩
        · have t2 : (zq == q) = false := by simpa using h2
          have HK := Lib.hid (show keyR (l.getD i r0) ≠ (c, q) by rw [HZ.out]; intro h; injection h with _ h; exact h2 h)
          clear h2
          go_wp2_with fail
          go_roundw
          case rel => exact ⟨i + 1, by have := HLT.out; omega, by go_num, fun j hj => if h : j = i then by subst h; exact HK.out else HALL.out j (by omega), HBR.out⟩
          case measure => have := HLT.out; simp [intOf]; omega
      · have t1 : (zc == c) = false := by simpa using h1
        have HK := Lib.hid (show keyR (l.getD i r0) ≠ (c, q) by rw [HZ.out]; intro h; injection h with h _; exact h1 h)
        clear h1
        go_wp2_with fail
        go_roundw
        case rel => exact ⟨i + 1, by have := HLT.out; omega, by go_num, fun j hj => if h : j = i then by subst h; exact HK.out else HALL.out j (by omega), HBR.out⟩
        case measure => have := HLT.out; simp [intOf]; omega
    · obtain rfl : i = l.length := by have := HI.out; omega
      have hlt' : ¬ (l.length : Int) < (l.length : Int) := by omega
      clear hlt
      go_wp2_with fail
      go_ret
      exact ⟨by rw [ix_none HALL.out]; rfl, HBR.out⟩
set_option maxRecDepth 100000 in
set_option maxHeartbeats 8000000 in
/-- those that are executed, in a new row -/
theorem rentries_any (l : List Rq) (v : Value) (w : World) (hv : ReqsAt w v l) (hl : l.length ≤ 100000) :
    Calls Tryd.prog 10 #[v] w fun e w' => ∃ x, e = .returned x ∧ w'.ownsRow w.heap.size 34 3 x (appE [] l).length (cellsR (appE [] l)) ∧ Below w.heap.size w w' := by
  have HL := Lib.hid hl
  obtain ⟨a0, cap, rfl, hx⟩ := hv
  have HH := Lib.hid hx
  clear hl hx
  go_enter Tryd.func10, Tryd.ntmps10
  go_wp2_with fail
  go_loopw [3, 4] (fun x y wr => ∃ i : Nat, i ≤ l.length ∧ y = .int .i64 (i : Int) ∧ wr.ownsRow w.heap.size 34 3 x (appE [] (l.take i)).length (cellsR (appE [] (l.take i))) ∧ Below w.heap.size w wr) (fun _ y _ => l.length - (intOf y).toNat)
  case atStart => exact ⟨0, Nat.zero_le _, rfl, World.ownsRow_nil _ _ _ _, Below.refl _ _⟩
  case round =>
    obtain ⟨i, hi, rfl, hrow, hbr⟩ := hrel
    have HBR := Lib.hid hbr
    have HI := Lib.hid hi
    have i0 : (0 : Int) ≤ (i : Int) := by omega
    have ib : (i : Int) ≤ 100000 := by have := HL.out; omega
    have hal := appE_len l i
    have hsn := @appE_take l i
    obtain ⟨out, hout⟩ : ∃ out, appE [] (l.take i) = out := ⟨_, rfl⟩
    have HOUT := Lib.hid hout
    rw [hout] at hrow hal hsn
    have HOL := Lib.hid (show out.length ≤ 100000 by have := HL.out; omega)
    have HROW := Lib.hid hrow
    obtain ⟨xa, xc, rfl⟩ := own_slZ hrow
    clear hrow hbr hi hout hal
    by_cases hlt : i < l.length
    · have hlt' : (i : Int) < (l.length : Int) := by omega
      have HLT := Lib.hid hlt
      have HSN := Lib.hid (hsn hlt)
      obtain ⟨b, off, rfl, hbw, hcell⟩ : ∃ b off, a0 = some ⟨b, off, none⟩ ∧ b < w.heap.size ∧ _ := by
        rcases HH.out with h | h
        · subst h; simp at hlt
        · exact h
      have HQ := Lib.hid (fun wx (hb : Below w.heap.size w wx) => JJ.reqs_at hb hbw hcell i hlt)
      obtain ⟨z, hz⟩ : ∃ z, l.getD i r0 = z := ⟨_, rfl⟩
      rw [hz] at HQ HSN
      obtain ⟨zc, zq, zs⟩ := z
      have HC := Lib.hid (fun wx (hb : Below wr.heap.size wr wx) => rindex_any out (.slice xa out.length xc) zc zq wx ((reqs_of_own HROW.out).later hb) HOL.out)
      clear hlt hbw hcell hz hsn
      go_wp2_with fail
      refine plan_abs (fun wx => Below wr.heap.size wr wx) [(true, 0), (true, 1), (true, 2), (true, 3), (true, 4), (true, 5), (true, 6), (true, 7), (true, 8), (true, 9), (true, 10), (false, 11), (true, 12)] (by kernel_rfl) (by kernel_rfl) (fun _ _ d _ _ h => by cases d <;> exact h) fun w5 hs5 => ⟨hs5.below _, ?_⟩
      have B5 := Lib.hid (hs5.below wr.heap.size)
      clear hs5
      iterate 11 (refine pl_run _ ?_ rfl rfl ?_ ?_; rotate_left; (focus (intro w' hS; obtain ⟨q0, q1, q2⟩ := HQ.out w' (HBR.out.trans (hS.mono HBR.out.size)); go_simp; exact rfl)); simp only [Act.put, List.setIfInBounds_toArray, List.set_cons_zero, List.set_cons_succ, List.getElem_toArray, List.getElem_cons_zero, List.getElem_cons_succ])
      refine pl_call1 _ rfl rfl (by go_simp) (HC.out w5 B5.out) (fun w9 hb => B5.out.trans (hb.mono B5.out.size)) fun w2 hb2 => ?_
      have Y2 := Lib.hid (B5.out.trans (hb2.mono B5.out.size))
      have BW2 := Lib.hid (HBR.out.trans (Y2.out.mono HBR.out.size))
      have R2 := Lib.hid (row_keep HROW.out fun c hc => Y2.out.block c (HROW.out.lt c hc).2)
      clear hb2 HC
      simp only [Act.put, List.setIfInBounds_toArray, List.set_cons_zero, List.set_cons_succ, List.getElem_toArray, List.getElem_cons_zero, List.getElem_cons_succ]
      obtain ⟨X, hX⟩ : ∃ X, ixR out (zc, zq) = X := ⟨_, rfl⟩
      have HX := Lib.hid hX
      have HB0 := Lib.hid (show -1 ≤ X ∧ X < out.length by rw [← hX]; exact ix_bound _ _)
      rw [hX]
      clear hX
      iterate 1 (refine pl_run _ ?_ rfl rfl ?_ ?_; rotate_left; (focus (intro w' hS; go_simp; exact rfl)); simp only [Act.put, List.setIfInBounds_toArray, List.set_cons_zero, List.set_cons_succ, List.getElem_toArray, List.getElem_cons_zero, List.getElem_cons_succ])
      refine pl_end ?_
      by_cases hneg : X < 0
      · have HEQ := Lib.hid (show appE [] (l.take (i + 1)) = out ++ [(zc, zq, zs)] by
          rw [HSN.out]; unfold stepL
          rw [if_neg (show ¬ 0 ≤ ixR out (keyR (zc, zq, zs)) by rw [show ixR out (keyR (zc, zq, zs)) = X from HX.out]; omega)])
        obtain ⟨q0, q1, q2⟩ := HQ.out w2 BW2.out
        have A9 := Lib.hid ((Below.refl w2.heap.size w2).alloc (Nat.le_refl _) (.cells #[.int .i64 zc, .int .i64 zq, .string zs] 34))
        have HQ3 := Lib.hid (show out.length + 1 ≤ maxLen by have := HOL.out; unfold maxLen; omega)
        have HQ4 := Lib.hid (show (out.length + 1) * 32 ≤ 140737488355328 by have := HOL.out; omega)
        obtain ⟨ti, i1, i2, i3, i4⟩ := info_parts info_req
        go_wp2_with (at_builtin; refine wpList_append_own _ rfl _ _ 27 rfl w.heap.size 34 ti (.agg #[.int .i64 0, .int .i64 0, .string ⟨#[]⟩]) 3 32 und_reqs i1 i2 i3 i4 rfl (by decide) _ _ _ rfl (row_keep R2.out fun c hc => A9.out.block c (R2.out.lt c hc).2) ⟨w2.heap.size, 0, none⟩ 1 1 [.int .i64 zc, .int .i64 zq, .string zs] rfl rfl (cells3_new w2 zc zq zs _) (cells3_one zc zq zs) HQ3.out HQ4.out (sz_alloc (Nat.le_trans BW2.out.size (Nat.le_refl _)) _) ?_)
        intro u' w10 hown' hgr _
        obtain ⟨a', c', rfl⟩ := own_slZ hown'
        have HO' := Lib.hid hown'
        have BA := Lib.hid (BW2.out.trans (A9.out.mono BW2.out.size))
        have BF := Lib.hid (BA.out.grown hgr BA.out.size (fun k hk => (R2.out.lt k hk).1))
        clear hown' hgr q0 q1 q2
        go_wp2_with fail
        go_roundw
        case rel => exact ⟨i + 1, by have := HLT.out; omega, by go_num, by rw [HEQ.out, cellsR_snoc, List.length_append]; exact HO'.out, BF.out⟩
        case measure => have := HLT.out; simp [intOf]; omega
      · have HEQ := Lib.hid (show appE [] (l.take (i + 1)) = out by
          rw [HSN.out]; unfold stepL
          rw [if_pos (show 0 ≤ ixR out (keyR (zc, zq, zs)) by rw [show ixR out (keyR (zc, zq, zs)) = X from HX.out]; omega)])
        go_wp2_with fail
        go_roundw
        case rel => exact ⟨i + 1, by have := HLT.out; omega, by go_num, by rw [HEQ.out]; exact R2.out, BW2.out⟩
        case measure => have := HLT.out; simp [intOf]; omega
    · obtain rfl : i = l.length := by have := HI.out; omega
      have hlt' : ¬ (l.length : Int) < (l.length : Int) := by omega
      have HFIN := Lib.hid (show appE [] l = out by rw [← HOUT.out, List.take_length])
      clear hlt hsn
      go_wp2_with fail
      go_ret
      rw [HFIN.out]
      exact ⟨.slice xa out.length xc, rfl, HROW.out, HBR.out⟩
set_option maxRecDepth 100000 in
set_option maxHeartbeats 8000000 in
/-- the digest behind entries -/
theorem rdigest_any (l : List Rq) (v : Value) (w : World) (hv : ReqsAt w v l) (hl : l.length ≤ 100000) (hs : ∀ i, (l.getD i r0).2.2.size ≤ 100000) :
    Calls Tryd.prog 20 #[v] w fun e w' => e = .returned (.string (digE l)) ∧ Below w.heap.size w w' := by
  have HL := Lib.hid hl
  have HS := Lib.hid hs
  obtain ⟨a0, cap, rfl, hx⟩ := hv
  have HH := Lib.hid hx
  clear hl hx hs
  go_enter Tryd.func20, Tryd.ntmps20
  go_wp2_with fail
  refine (rsum_dg ⟨#[108, 101, 100, 103, 101, 114]⟩ (by decide) w).mono ?_
  rintro e w1 ⟨rfl, hb1⟩
  have B1 := Lib.hid hb1
  clear hb1
  go_wp2_with fail
  go_loopw [3, 4] (fun x y wr => ∃ i : Nat, i ≤ l.length ∧ y = .int .i64 (i : Int) ∧ x = .string (digE (l.take i)) ∧ Below w.heap.size w wr) (fun _ y _ => l.length - (intOf y).toNat)
  case atStart => exact ⟨0, Nat.zero_le _, rfl, rfl, B1.out⟩
  case round =>
    obtain ⟨i, hi, rfl, rfl, hbr⟩ := hrel
    have HBR := Lib.hid hbr
    have HI := Lib.hid hi
    have i0 : (0 : Int) ≤ (i : Int) := by omega
    have ib : (i : Int) ≤ 100000 := by have := HL.out; omega
    have hdt := @digE_take l i
    have hd32 : (digE (l.take i)).size = 32 := digE_size _
    obtain ⟨d, hd⟩ : ∃ d, digE (l.take i) = d := ⟨_, rfl⟩
    have HD := Lib.hid hd
    rw [hd] at hdt hd32 ⊢
    clear hbr hi hd
    by_cases hlt : i < l.length
    · have hlt' : (i : Int) < (l.length : Int) := by omega
      have HLT := Lib.hid hlt
      have HDT := Lib.hid (hdt hlt)
      obtain ⟨b, off, rfl, hbw, hcell⟩ : ∃ b off, a0 = some ⟨b, off, none⟩ ∧ b < w.heap.size ∧ _ := by
        rcases HH.out with h | h
        · subst h; simp at hlt
        · exact h
      obtain ⟨q0, q1, q2⟩ := JJ.reqs_at HBR.out hbw hcell i hlt
      have HZ := Lib.hid (HS.out i)
      obtain ⟨z, hz⟩ : ∃ z, l.getD i r0 = z := ⟨_, rfl⟩
      rw [hz] at q0 q1 q2 HDT HZ
      obtain ⟨zc, zq, zs⟩ := z
      have HRB := Lib.hid (show (reqB zc zq zs).size ≤ 200000 by unfold reqB; rw [ByteArray.size_append, ByteArray.size_append, num_size, num_size, txt_size]; have := HZ.out; simp only at this; omega)
      have hx1 : ¬ 9223372036854775807 < (1 : Nat) + d.size := by omega
      clear hlt hbw hcell hz hdt
      go_wp2_with fail
      refine (rrequest_any zc zq zs (Nat.le_trans HZ.out (by omega)) wr).mono ?_
      rintro e w2 ⟨rfl, hb2⟩
      have B2 := Lib.hid (HBR.out.trans (hb2.mono HBR.out.size))
      obtain ⟨R, hR⟩ : ∃ R, reqB zc zq zs = R := ⟨_, rfl⟩
      have HR := Lib.hid hR
      have HRL := HRB.out
      rw [hR] at HRL ⊢
      have hx2 : ¬ 9223372036854775807 < 1 + d.size + R.size := by omega
      clear hb2 hR
      go_wp2_with fail
      refine (rsum_dg ((⟨#[69]⟩ : ByteArray) ++ d ++ R) (by rw [ByteArray.size_append, ByteArray.size_append, show (⟨#[69]⟩ : ByteArray).size = 1 from rfl]; omega) w2).mono ?_
      rintro e w3 ⟨rfl, hb3⟩
      have B3 := Lib.hid (B2.out.trans (hb3.mono B2.out.size))
      clear hb3
      go_wp2_with fail
      go_roundw
      case rel => exact ⟨i + 1, by have := HLT.out; omega, by go_num, by rw [HDT.out, ← HR.out], B3.out⟩
      case measure => have := HLT.out; simp [intOf]; omega
    · obtain rfl : i = l.length := by have := HI.out; omega
      have hlt' : ¬ (l.length : Int) < (l.length : Int) := by omega
      have HFIN := Lib.hid (show digE l = d by rw [← HD.out, List.take_length])
      clear hlt hdt
      go_wp2_with fail
      go_ret
      exact ⟨by rw [HFIN.out]; rfl, HBR.out⟩
end Go.Proofs.YtbakceglaadfpaaDoor
end
section
open Go Go.RowKit
namespace ZZ
open FF JJ WW BB
theorem add_plain (b off k : Nat) : (⟨b, off, none⟩ : Addr).add k = ⟨b, off + k, none⟩ := by unfold Addr.add; split <;> simp [*]
theorem cellsR_oneZ (l : List Rq) : ∀ u ∈ cellsR l, u.oneCell' = true := by
  intro u hu
  unfold cellsR at hu
  rw [List.mem_flatten] at hu
  obtain ⟨c, hc, hu⟩ := hu
  obtain ⟨x, _, rfl⟩ := List.mem_map.1 hc
  simp only [List.mem_cons, List.not_mem_nil, or_false] at hu
  rcases hu with rfl | rfl | rfl <;> rfl
theorem cellsR_app (l m : List Rq) : cellsR (l ++ m) = cellsR l ++ cellsR m := by unfold cellsR; rw [List.map_append, List.flatten_append]
theorem cellsR_at3 : ∀ (l : List Rq) (k : Nat) (u : Value), (cellsR l)[k]? = some u → k / 3 < l.length ∧ [Value.int .i64 (l.getD (k / 3) r0).1, .int .i64 (l.getD (k / 3) r0).2.1, .string (l.getD (k / 3) r0).2.2][k % 3]? = some u
  | [], k, u, h => by simp [cellsR] at h
  | x :: l, k, u, h => by
    have e : cellsR (x :: l) = [Value.int .i64 x.1, .int .i64 x.2.1, .string x.2.2] ++ cellsR l := by unfold cellsR; rw [List.map_cons, List.flatten_cons]
    rw [e] at h
    by_cases hk : k < 3
    · rw [List.getElem?_append_left (by simpa using hk)] at h
      have e1 : k / 3 = 0 := by omega
      have e2 : k % 3 = k := by omega
      rw [e1, e2]
      exact ⟨Nat.succ_pos _, h⟩
    · rw [List.getElem?_append_right (by simp; omega)] at h
      obtain ⟨h1, h2⟩ := cellsR_at3 l (k - 3) u (by simpa using h)
      have e1 : k / 3 = (k - 3) / 3 + 1 := by omega
      have e2 : k % 3 = (k - 3) % 3 := by omega
      rw [e1, e2]
      exact ⟨by rw [List.length_cons]; omega, by simpa [List.getD] using h2⟩
/-- the cells of a slice of requests, one behind the other -/
theorem reqs_flat {w w' : World} {a0 : Option Addr} {n c : Nat} {l : List Rq} (h : ReqsAt w (.slice a0 n c) l) (hb : Below w.heap.size w w') : ∀ a, a0 = some a → ∀ k u, (cellsR l)[k]? = some u → w'.cell? (a.add k) = some u := by
  intro a ha k u hu
  obtain ⟨a1, c1, he, h | ⟨b, off, h1, hl, hc⟩⟩ := h
  · subst h; simp [cellsR] at hu
  · injection he with e1 _ _
    rw [ha, h1] at e1
    injection e1 with e1
    subst e1
    obtain ⟨hi, hu⟩ := cellsR_at3 l k u hu
    obtain ⟨h0, h2, h3⟩ := hc (k / 3) hi
    rw [add_plain, hb.cell (p := ⟨b, off + k, none⟩) hl]
    have hk : k % 3 = 0 ∨ k % 3 = 1 ∨ k % 3 = 2 := by omega
    rcases hk with hk | hk | hk
    · rw [hk] at hu; injection hu with hu; rw [show off + k = off + k / 3 * 3 by omega, h0, ← hu]; rfl
    · rw [hk] at hu; injection hu with hu; rw [show off + k = off + k / 3 * 3 + 1 by omega, h2, ← hu]; rfl
    · rw [hk] at hu; injection hu with hu; rw [show off + k = off + k / 3 * 3 + 2 by omega, h3, ← hu]; rfl
theorem reqs_none {w : World} {a0 : Option Addr} {n c : Nat} {l : List Rq} (h : ReqsAt w (.slice a0 n c) l) (h0 : a0 = none) : n = 0 := by
  obtain ⟨a1, c1, he, h | ⟨b, off, h1, _⟩⟩ := h
  · injection he with _ e2 _; subst h; exact e2
  · injection he with e1 _ _; rw [h0, h1] at e1; cases e1
/-- what is in a slice, or none, is appended to a row of the call's own -/
theorem run_append_argZ {P : Program} {w : World} (base : Nat) (t ty e : TypeId) (i : TypeInfo) (z : Value) (size bytes : Nat) (ht : P.underlying t = some (.slice e)) (hi : P.info? e = some i) (hz : i.zero = some z)
    (hsize : i.size = size) (hby : i.bytes = bytes) (hzs : z.cells.size = size) (hsz : 0 < size) (v : Value) (n : Nat) (xs : List Value) (hown : w.ownsRow base e size v n xs) (a0 : Option Addr) (j c : Nat) (news : List Value) (hl : news.length = j * size)
    (hn : a0 = none → j = 0) (hnews : ∀ a, a0 = some a → ∀ k u, news[k]? = some u → w.cell? (a.add k) = some u) (h1 : ∀ y ∈ news, y.oneCell' = true)
    (h63 : n + j ≤ maxLen) (hbytes : (n + j) * bytes ≤ 140737488355328) (hbase : base ≤ w.heap.size) :
    ∃ v' w', (Builtin.append_ #[t, t] ty #[v, .slice a0 j c]).run P w = .ok v' w' ∧ w'.ownsRow base e size v' (n + j) (xs ++ news) ∧ w.grownBy w' v.ownBlock := by
  rcases a0 with _ | a
  · obtain rfl := hn rfl
    have hn : news = [] := List.eq_nil_of_length_eq_zero (by simpa using hl)
    subst hn
    exact ⟨_, w, run_append_none_any (P := P) (w := w) base t ty e i size ht hi _ n xs hown c, by simpa using hown, ⟨rfl, rfl, rfl, Nat.le_refl _, fun _ _ _ => rfl⟩⟩
  · obtain ⟨v', w', hr, ho, hg, _⟩ := run_append_own (P := P) w base t ty e i z size bytes ht hi hz hsize hby hzs hsz v n xs hown a j c news hl (hnews a rfl) h1 h63 hbytes hbase
    exact ⟨v', w', hr, ho, hg⟩
/-- 'append(append([]T{}, v1...), v2...)' -/
theorem two_rowsZ {P : Program} {w : World} {t ty e : TypeId} {i : TypeInfo} {z : Value} {bytes : Nat} (ht : P.underlying t = some (.slice e)) (hi : P.info? e = some i) (hz : i.zero = some z) (hsize : i.size = 3) (hby : i.bytes = bytes) (hzs : z.cells.size = 3)
    {a1 a2 : Option Addr} {n1 n2 c1 c2 : Nat} {B1 B2 : List Rq} (h1 : ReqsAt w (.slice a1 n1 c1) B1) (h2 : ReqsAt w (.slice a2 n2 c2) B2) (hl : B1.length + B2.length ≤ 10000) (hb : bytes ≤ 1000) :
    ∃ a3 c3 w2 a4 c4 w3, (Builtin.append_ #[t, t] ty #[.slice (some ⟨w.heap.size, 0, none⟩) 0 0, .slice a1 n1 c1]).run P (w.alloc (.cells #[] e)) = .ok (.slice a3 B1.length c3) w2 ∧
      (Builtin.append_ #[t, t] ty #[.slice a3 B1.length c3, .slice a2 n2 c2]).run P w2 = .ok (.slice a4 (B1.length + B2.length) c4) w3 ∧
      Below w.heap.size w w2 ∧ Below w.heap.size w w3 ∧ w3.ownsRow w.heap.size e 3 (.slice a4 (B1.length + B2.length) c4) (B1 ++ B2).length (cellsR (B1 ++ B2)) := by
  have W1 : Below w.heap.size w (w.alloc (.cells #[] e)) := (Below.refl _ _).alloc (Nat.le_refl _) _
  have e1 : n1 = B1.length := by obtain ⟨a, c, h, _⟩ := h1; injection h
  have e2 : n2 = B2.length := by obtain ⟨a, c, h, _⟩ := h2; injection h
  subst e1 e2
  have hm : B1.length * bytes ≤ 10000 * 1000 := Nat.mul_le_mul (by omega) hb
  have hm2 : (B1.length + B2.length) * bytes ≤ 10000 * 1000 := Nat.mul_le_mul hl hb
  have hrow0 : (w.alloc (.cells #[] e)).ownsRow w.heap.size e 3 (.slice (some ⟨w.heap.size, 0, none⟩) 0 0) 0 [] := ⟨rfl, Or.inr ⟨_, 0, #[], rfl, Nat.le_refl _, by show (Array.push _ _)[_]? = _; simp, Nat.le_refl _, Nat.zero_le _, rfl, rfl⟩⟩
  obtain ⟨v2, w2, hr2, ho2, hg2, _⟩ := run_append_arg0 (P := P) (w := w.alloc (.cells #[] e)) w.heap.size t ty e i z 3 bytes ht hi hz hsize hby hzs (by decide) w.heap.size hrow0 a1 B1.length c1 (cellsR B1) (cellsR_len B1) (reqs_none h1) (reqs_flat h1 W1) (cellsR_oneZ B1) (by unfold maxLen; omega) (by omega) (by simp)
  obtain ⟨a3, c3, rfl⟩ := own_slZ ho2
  have W2 : Below w.heap.size w w2 := W1.grown hg2 (by simp) (fun j e => by cases e; exact Nat.le_refl _)
  obtain ⟨v3, w3, hr3, ho3, hg3⟩ := run_append_argZ (P := P) (w := w2) w.heap.size t ty e i z 3 bytes ht hi hz hsize hby hzs (by decide) _ B1.length (cellsR B1) ho2 a2 B2.length c2 (cellsR B2) (cellsR_len B2) (reqs_none h2) (reqs_flat h2 W2) (cellsR_oneZ B2) (by unfold maxLen; omega) (by omega) W2.size
  obtain ⟨a4, c4, rfl⟩ := own_slZ ho3
  refine ⟨a3, c3, w2, a4, c4, w3, hr2, hr3, W2, W2.grown hg3 W2.size (fun j e => (ho2.lt j e).1), ?_⟩
  rw [List.length_append, cellsR_app]
  exact ho3
/-- a row of the call's own, kept by what it lies in -/
theorem reqs_dep {w : World} {base : Nat} {e : TypeId} {v : Value} {l : List Rq} {A : Nat → Prop} (h : w.ownsRow base e 3 v l.length (cellsR l)) (hA : ∀ b, v.ownBlock = some b → A b) : Dep A w (fun w' => ReqsAt w' v l) := fun _ hk =>
  reqs_of_own (row_keep h fun c hc => hk.block c (hA c hc) (h.lt c hc).2)
end ZZ
end
section
open Go Go.RowKit
namespace FF
open WW BB
theorem ready_hit {F : Fo} (i : Nat) (hi : i < F.orph.length) (hn : ∀ j, j < i → hasF F (parI (F.orph.getD j i0).2) = false) (he : hasF F (parI (F.orph.getD i i0).2) = true) : readyF F = some i := by
  unfold readyF
  rw [List.findIdx?_eq_some_iff_getElem]
  refine ⟨hi, by simpa [List.getD, List.getElem?_eq_getElem hi] using he, fun j hj => ?_⟩
  have := hn j hj
  simpa [List.getD, List.getElem?_eq_getElem (show j < F.orph.length by omega)] using this
theorem ready_none {F : Fo} (hn : ∀ j, j < F.orph.length → hasF F (parI (F.orph.getD j i0).2) = false) : readyF F = none := by
  unfold readyF
  rw [List.findIdx?_eq_none_iff]
  intro x hx
  obtain ⟨j, hj, rfl⟩ := List.getElem_of_mem hx
  have := hn j hj
  simpa [List.getD, List.getElem?_eq_getElem hj] using this
theorem stand_root (F : Fo) (x : It) : (standF F x).1.root = F.root := by unfold standF; split; rfl; split <;> rfl
theorem stand_height (F : Fo) (x : It) : (standF F x).1.height = F.height := by unfold standF; split; rfl; split <;> rfl
theorem stand_orph (F : Fo) (x : It) : (standF F x).1.orph = F.orph := by unfold standF; split; rfl; split <;> rfl
theorem stand_len (F : Fo) (x : It) (h : F.nodes.length ≤ 1000) : (standF F x).1.nodes.length ≤ 1000 := by
  unfold standF
  split
  · exact h
  · split
    · exact h
    · simp only [List.length_append, List.length_singleton]; omega
theorem adopt_root : ∀ (m : Nat) (F : Fo), (adoptF m F).root = F.root ∧ (adoptF m F).height = F.height
  | 0, F => ⟨rfl, rfl⟩
  | m + 1, F => by
    unfold adoptF
    split
    · exact ⟨rfl, rfl⟩
    · rename_i i _
      obtain ⟨h1, h2⟩ := adopt_root m (standF { F with orph := F.orph.eraseIdx i } (F.orph.getD i i0)).1
      rw [h1, h2, stand_root, stand_height]; exact ⟨rfl, rfl⟩
/-- the call's two boxes: the forest, the result -/
structure AdS (w : World) (g : Nat) (f1 f3 : Nat → Value) (w' : World) : Prop where
  below : Below w.heap.size w w'
  lo : w.heap.size = g
  a : Blk w' g 4 f1
  c : Blk w' (g + 1) 4 f3
theorem AdS.on {w : World} {g : Nat} {f1 f3 : Nat → Value} {w1 w2 : World} (h : AdS w g f1 f3 w1) (hb : Below w1.heap.size w1 w2) : AdS w g f1 f3 w2 :=
  ⟨h.below.trans (hb.mono h.below.size), h.lo, h.a.below hb h.a.lt, h.c.below hb h.c.lt⟩
theorem AdS.mk2 (w : World) (cs es : List Value) (t s : TypeId) (h1 : cs.toArray = row 4 (rowL cs)) (h3 : es.toArray = row 4 (rowL es)) : AdS w w.heap.size (rowL cs) (rowL es) ((w.alloc (.cells cs.toArray t)).alloc (.cells es.toArray s)) := by
  have b1 := (Below.refl w.heap.size w).alloc (Nat.le_refl _) (.cells cs.toArray t)
  have b2 := b1.alloc b1.size (.cells es.toArray s)
  exact ⟨b2, rfl, (Blk.new' rfl h1).alloc _, Blk.new' (by simp) h3⟩
theorem erase_same (L : List Iv) (i : Nat) (hi : i < L.length) : (L.take (i + 1)).eraseIdx i = (L.take i).eraseIdx i := by
  rw [List.take_add_one, List.getElem?_eq_getElem hi, List.eraseIdx_append_of_length_le (by simp; omega)]
  have : (L.take i).length = i := by simp; omega
  rw [this, Nat.sub_self, List.eraseIdx_of_length_le (l := L.take i) (by omega)]
  simp
theorem erase_more (L : List Iv) (i k : Nat) (hk : k < L.length) (hne : k ≠ i) : (L.take (k + 1)).eraseIdx i = (L.take k).eraseIdx i ++ [L.getD k v0] := by
  have e : L.take (k + 1) = L.take k ++ [L.getD k v0] := by
    rw [List.take_add_one, List.getElem?_eq_getElem hk]; simp [List.getD, List.getElem?_eq_getElem hk]
  have hlen : (L.take k).length = k := by simp; omega
  rw [e]
  by_cases h : i < k
  · rw [List.eraseIdx_append_of_lt_length (by omega)]
  · rw [List.eraseIdx_append_of_length_le (by omega), List.eraseIdx_of_length_le (l := L.take k) (by omega), hlen]
    rw [List.eraseIdx_of_length_le (l := [L.getD k v0]) (by simp; omega)]
theorem erase_mem {L : List Iv} {i k : Nat} {x : Iv} (h : x ∈ (L.take k).eraseIdx i) : x ∈ L := List.mem_of_mem_take (List.mem_of_mem_eraseIdx h)
theorem map_erase : ∀ (L : List Iv) (i : Nat), (L.eraseIdx i).map Prod.fst = (L.map Prod.fst).eraseIdx i
  | [], _ => rfl
  | x :: r, 0 => rfl
  | x :: r, i + 1 => by
    show x.1 :: (r.eraseIdx i).map Prod.fst = x.1 :: (r.map Prod.fst).eraseIdx i
    rw [map_erase r i]
/-- behind the orphan that was found: its box, and the others -/
structure AdI (w : World) (g : Nat) (f1 f3 fx : Nat → Value) (y : Nat) (e : TypeId) (L : List Iv) (v : Value) (w' : World) : Prop where
  s : AdS w g f1 f3 w'
  x : Blk w' y 7 fx
  lo : g + 1 < y
  row : w'.ownsRow (y + 1) e 7 v L.length (cellsV L)
  shape : ∃ a c, v = .slice a L.length c
theorem cells7_new (w : World) (x : Iv) (t : TypeId) : ∀ j u, (encV x)[j]? = some u → (w.alloc (.cells (encV x).toArray t)).cell? ((⟨w.heap.size, 0, none⟩ : Addr).add j) = some u := by
  intro j u hj
  rw [Addr.add_lit, Nat.zero_add]
  exact cell_new w _ t j _ (by simpa using hj)
end FF
namespace Go.Proofs.YtbakceglaadfpaaDoor
open FF JJ CC WW BB
end Go.Proofs.YtbakceglaadfpaaDoor
end
